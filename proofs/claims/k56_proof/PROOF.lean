import PyProof.Rows.All
import Wide.All
import OpenK.AllK
import Wide.FinOn
import Lean
import PyProof.EqAt
import PyProof.EqKinds
import PyProof.TupleCall
import PyProof.Rows.SortRuns
import KE.KSortKey
import KE.KListMore
import KE.KIntText
import KE.KEqDat
import PyProof.Rows.CallKwBuiltin
import PySem.SetTable
import PyProof.Rows.SetFrom
import PyProof.TupleKey
import PyProof.IsRules
import KE.KRevIter
import PyProof.ListRange
import PyProof.TupleOfGen
import PyProof.CollectIter
import PySem.Challenge.RW_seamwright_k56_side_by_side_and_prisms
import KE.KDictLaws
import PyProof.DictWalks
import PyProof.SetNew
import PyProof.DictCopy
import PyProof.FactsAll.dict_1
import PyProof.FactsAll.set_2
import PyProof.FactsAll.subtypes_5
import PyProof.DictFindH
import PyProof.MinMaxWalk
import PyProof.SumAny
import PyProof.AttrMissHeap
import KE.KDictList
import KE.KDictSum
import KE.KEqDict
import PyProof.NeKinds
import PyProof.DictTruth
import PyProof.StationsW
import PyProof.ExcClass3
import OpenK.KOwn
import PyProof.ExcArgsOwn
import PyProof.DictItems
import PyProof.MeetsDictList
open PySem renaming wpAny_bind->Aa,wpAny_pure->Ac,tupleKeyHash->Ar,wpAny_holding->AA,wpAny_call_entry->AC,wpAny_dictEntries->AD,wpAny_newObj_type->AF,IsTupleKey->AI,wpAny_callSpecial?_slot->AS,wpAny_field->AT,codeAny_builtin->AW,bootBuiltins->AX,wpAny_setState_of->AZ,sysModules->A0,wpAny_isInstance->A8,codeAny_mono->Bc,wpAny_of_eq->Bi,wpAny_setField->Bk
open List renaming length_map->Ab,getElem?_eq_getElem->Af,getElem?_map->Ai,size_toArray->Aj,map_append->Am,mem_of_getElem?->Ap,length_append->As,map_map->At,length_cons->Au,mem_cons_self->Av,map_cons->Ax,mem_cons_of_mem->Ay,take_of_length_le->Az,length_take->AG,getD_eq_getElem?_getD->AR,filter_append->AV,map_congr_left->A7,getElem_mem->A9,range->Ba,pairwise_map->Bf,mem_singleton->Bh,lookup_cons->Bl
open PySem.Heap renaming get?_push_of_some->Ad,lt_size->Ak,get?_push_size->Al,SameBut->AQ,get?_update_self->A5,size_update->Bb
open PySem.W renaming Frag->Ae,kitOne->AJ
open Nat renaming le_refl->Ag,ne_of_lt->Ao,lt_of_lt_of_le->AB,zero_le->AK,le_trans->AO,lt_succ_of_lt->Be
open Bool renaming false_eq_true->Ah,false_ne_true->Aq,and_eq_true->AN,not_true->A3
open Option.some renaming inj->An,injEq->Bd
open Array renaming length_toList->Aw,getElem?_toList->AE,size_map->AY
open PySem.Obj renaming mapSeq->AH,data_mapFields->A1
open PySem.Heap.SameBut renaming update->AL
open PyProof.Rows renaming take_snoc->AM
open PySem.PassesOwn renaming never->AU
open PySem.Paired renaming length->A2
open PySem.Around renaming under_plainId->A4
open Option renaming map_some->A6
open Int renaming toNat_natCast->Bg
open PySem.PyData renaming int->Bj
open PySem.Str renaming ofString->Bm
set_option linter.all false
set_option Elab.async false
set_option maxRecDepth 100000
set_option maxHeartbeats 4000000
def δ{p:Prop}(h:p:=by decide +kernel):p:=h
def ω{p:Prop}(h:p:=by omega):p:=h
def ξ{p:Prop}(h:p:=by decide):p:=h
abbrev Ω:=PySem.Value->PySem.Shared->Prop
abbrev Ξ:=List (List Int)
abbrev Ψ:=List (PySem.Addr×PySem.Obj)
local macro_rules|`($s⁻¹)=>`(($s).heap.objs.size)
section
namespace L2
open PySem PySem.Spec PyProof.Rows
abbrev Key:=Sum Int Str
def kD:Key->Value->Bool
 |.inl k,v=>Value.isInt k v
 |.inr x,v=>Value.isStrOf x v
def vh(w:World):Key->Int
 |.inl k=>hashInt k
 |.inr x=>hashStr w x
def az:∀{k:Key}{v:Value},kD k v=true->(∃i t,k=Sum.inl i/\v=Value.int i t)\/(∃x t,k=Sum.inr x/\v=Value.str x t)
 |.inl i,v,h=>by
  obtain⟨t,e⟩:=Value.isInt_shape (k:=i) (v:=v) h;exact .inl ⟨i,t,rfl,e⟩
 |.inr x,v,h=>by
  obtain⟨t,e⟩:=Value.isStrOf_shape (x:=x) (v:=v) h;exact .inr ⟨x,t,rfl,e⟩
def HN(i:Int)(t:Tok):kD (.inl i) (.int i t)=true:=by simp[kD,Value.isInt]
def HP(x:Str)(t:Tok):kD (.inr x) (.str x t)=true:=by simp[kD,Value.isStrOf]
def HQ(a b:Int):decide ((Sum.inl a:Key)=Sum.inl b)=(a==b):=by
 by_cases e:a=b
 ·subst e;simp
 ·have h:¬(Sum.inl a:Key)=Sum.inl b:=fun q=>e (Sum.inl.inj q)
  rw[decide_eq_false h];exact(beq_eq_false_iff_ne.mpr e).symm
def HR(a b:Str):decide ((Sum.inr a:Key)=Sum.inr b)=decide (a=b):=by
 by_cases e:a=b
 ·subst e;simp
 ·have h:¬(Sum.inr a:Key)=Sum.inr b:=fun q=>e (Sum.inr.inj q)
  rw[decide_eq_false h,decide_eq_false e]
def HS(a:Int)(b:Str):decide ((Sum.inl a:Key)=Sum.inr b)=false:=decide_eq_false (fun q=>nomatch q)
def HU(a:Str)(b:Int):decide ((Sum.inr a:Key)=Sum.inl b)=false:=decide_eq_false (fun q=>nomatch q)
def zt(prog:Program)(w:World):PySem.KeyKind prog w Key where
 is:=kD
 hash:=vh w
 inj:=fun v a b d hb=>by
  rcases az d with ⟨i,t,rfl,rfl⟩|⟨x,t,rfl,rfl⟩
  ·rcases az hb with ⟨j,u,rfl,e⟩|⟨y,u,rfl,e⟩
   ·injection e with e1 _;rw[e1]
   ·exact nomatch e
  ·rcases az hb with ⟨j,u,rfl,e⟩|⟨y,u,rfl,e⟩
   ·exact nomatch e
   ·injection e with e1 _;rw[e1]
 byValue:=fun k v h=>by
  rcases az h with ⟨i,t,rfl,rfl⟩|⟨x,t,rfl,rfl⟩<;>rfl
 pyHash:=fun c h=>by
  rcases az c with ⟨i,t,rfl,rfl⟩|⟨x,t,rfl,rfl⟩
  ·exact wpAny_pyHash_int h
  ·exact wpAny_pyHash_str h
 eqBool:=fun hu c h=>by
  rcases az hu with ⟨i,t,rfl,rfl⟩|⟨x,t,rfl,rfl⟩
  ·rcases az c with ⟨j,u,rfl,rfl⟩|⟨y,u,rfl,rfl⟩
   ·rw[HQ] at h;exact wpAny_eqBool_int h
   ·rw[HS] at h;exact SeqAt.EqAt.int_str i t y u _ _ _ _ h
  ·rcases az c with ⟨j,u,rfl,rfl⟩|⟨y,u,rfl,rfl⟩
   ·rw[HU] at h;exact SeqAt.EqAt.str_int x t j u _ _ _ _ h
   ·rw[HR] at h;exact wpAny_eqBool_str h
 «strs»:=fun k x t v h=>by
  rcases az h with ⟨i,u,rfl,e⟩|⟨y,u,rfl,e⟩
  ·exact nomatch e
  ·injection e with e1 _
   subst e1;cases v<;>rfl
def vl(prog:Program)(w:World)(i:Int)(t:Tok):(zt prog w).is (.inl i) (.int i t)=true:=HN i t
def HV(prog:Program)(w:World)(x:Str)(t:Tok):(zt prog w).is (.inr x) (.str x t)=true:=HP x t
inductive V where
 |non|bl (b:Bool)|int (i:Int)|str (x:Str)|byt (b:Array UInt8)|flt (b:UInt64)|ref (a:Addr)|ty (n:String)
 deriving DecidableEq
def RelV:V->Value->Prop
 |.non,u=>u=Value.none
 |.bl b,u=>u=Value.bool b
 |.int i,u=>∃t,u=Value.int i t
 |.str x,u=>∃t,u=Value.str x t
 |.byt b,u=>∃t,u=Value.bytes b t
 |.flt b,u=>∃t,u=Value.float b t
 |.ref a,u=>u=Value.ref a
 |.ty n,u=>u=Value.type n
abbrev Vals:List V->List Value->Prop:=Paired RelV
def Vals.length{xs:List V}{us:List Value}(r:Vals xs us):xs.length=us.length:=A2 r
def Vals.get:∀{xs:List V}{us:List Value}{i:Nat}{x:V},Vals xs us->xs[i]?=some x->∃u,us[i]?=some u/\RelV x u
 |_,_,_,_,.nil,e=>by simp at e
 |_,_,0,_,.cons r _,e=>by simp at e;subst e;exact⟨_,rfl,r⟩
 |_,_,i+1,x,.cons _ t,e=>by
  obtain⟨u,h1,h2⟩:=Vals.get (i:=i) (x:=x) t (by simpa using e);exact⟨u,by simpa using h1,h2⟩
def Vals.set{x:V}{u:Value}(r:RelV x u):∀{xs:List V}{us:List Value}(i:Nat),Vals xs us->Vals (xs.set i x) (us.set i u)
 |_,_,_,.nil=>.nil
 |_,_,0,.cons _ t=>.cons r t
 |_,_,i+1,.cons q t=>.cons q (Vals.set r i t)
def Vals.append{xs ys:List V}{us a:List Value}(h:Vals xs us)(g:Vals ys a):Vals (xs++ys) (us++a):=by
 induction h with
 |nil=>exact g
 |cons r _ ih=>exact .cons r ih
def Vals.take:∀{xs:List V}{us:List Value}(n:Nat),Vals xs us->Vals (xs.take n) (us.take n)
 |_,_,0,_=>.nil
 |_,_,_+1,.nil=>.nil
 |_,_,n+1,.cons r t=>.cons r (Vals.take n t)
def Vals.drop:∀{xs:List V}{us:List Value}(n:Nat),Vals xs us->Vals (xs.drop n) (us.drop n)
 |_,_,0,r=>r
 |_,_,_+1,.nil=>.nil
 |_,_,n+1,.cons _ t=>Vals.drop n t
def RelO:Option V->Option Value->Prop
 |some v,some u=>RelV v u
 |none,none=>True
 |_,_=>False
def KV{κ:Type}:List (κ×V)->List (κ×Value)->Prop:=Paired fun(p:κ×V)(q:κ×Value)=>p.1=q.1/\RelV p.2 q.2
def kV:Key->V
 |.inl i=>.int i
 |.inr x=>.str x
inductive HO where
 |lst (xs:List V)
 |tup (xs:List V)
 |dK (kvs:List (Key×V))|dT (kvs:List (List Key×V))
 |set (S:Int->Bool) (n:Nat)
 |ins (C dx:Addr) (fs:List (Str×V))
 |own (x:Addr)
 |xd (fs:List (Str×V))
 |met (f x:Addr)
 |rng (lo hi:Int)
 |frz (o:Obj) (u:HO)
 |tbl (ps:Array Value)
 |ext (φ:Heap->Prop)
abbrev Hp:=Addr->Option HO
def upd(H:Hp)(a:Addr)(o:HO):Hp:=fun b=>if b=a then some o else H b
def ai{H:Hp}{a:Addr}{o:HO}:upd H a o a=some o:=by unfold upd;rw[if_pos rfl]
def zl{H:Hp}{a b:Addr}{o:HO}(h:b≠a):upd H a o b=H b:=by unfold upd;rw[if_neg h]
def a0{H:Hp}{a b:Addr}{o u:HO}(h:H a=some o)(h':H b=some u)(d:o≠u):a≠b:=by
 intro e;subst e;rw[h] at h';exact d (An h')
def zg{H:Hp}{a b:Addr}{o:HO}(h:H a=some o)(h':H b=none):a≠b:=by
 intro e;subst e;rw[h] at h';cases h'
section
variable(P:Program)(w:World)
def zB(H:Hp)(h:Heap)(a:Addr):HO->Prop
 |.lst xs=>xs.length<=sizeLine/\∃(b:List Value)(n:Nat),Vals xs b/\h.get? a=some {cls:=.type "list",data:=.seq b.toArray n}
 |.tup xs=>xs.length<=sizeLine/\∃b:List Value,Vals xs b/\IsTup h a b.toArray
 |.dK kvs=>kvs.length<=sizeLine/\(a==A0)=false/\∃vs,KV kvs vs/\h.DictOf (zt P w) a vs
 |.dT kvs=>kvs.length<=sizeLine/\(a==A0)=false/\∃xs:List (List Key×Addr×Value),
   Paired (fun(p:List Key×V)(q:List Key×Addr×Value)=>p.1=q.1/\H q.2.1=some (.tup (p.1.map kV))/\RelV p.2 q.2.2) kvs xs/\
   ∃o es ep,h.get? a=some o/\o.ExactDict/\o.data=.dict es ep/\es.toList=xs.map (entryOfKey (tupleKind (zt P w)))/\(xs.map (·.1)).Nodup
 |.set S n=>h.SetOf (intKind P w) a S n
 |.ins C dx fs=>H dx=some (.own a)/\fs.length<=1000/\dx≠a/\h.get? a=some (PySem.W.instObj C dx)/\
   ∃mA,h.Ns1 dx mA/\(∀f,RelO (fs.lookup f) (mA f))/\PySem.Within mA (fs.map (·.1))
 |.own _=>∃o,h.get? a=some o
 |.xd fs=>∃mA,h.Ns1 a mA/\∀f,RelO (fs.lookup f) (mA f)
 |.rng lo hi=>∃t u v,h.get? a=some {cls:=.type "range",data:=.fields #[.int lo t,.int hi u,.int 1 v]}
 |.frz o u=>h.get? a=some o/\zB H h a u
 |.tbl ps=>h.get? a=some {cls:=.none,data:=.fields ps}
 |.met f x=>h.get? a=some (PySem.W.methodObj (.ref f) (.ref x))
 |.ext φ=>φ h/\(∃o,h.get? a=some o)/\∀h1 h2:Heap,φ h1->(∀o,h1.get? a=some o->h2.get? a=some o)->φ h2
def HOk(H:Hp)(h:Heap):Prop:=∀a o,H a=some o->zB P w H h a o
end
section
variable{P:Program}{w:World}{H H':Hp}{h h':Heap}{a:Addr}{o:HO}
def zB.lt(x:zB P w H h a o):a<h.objs.size:=by
 cases o with
 |lst xs=>obtain⟨_,_,_,_,e⟩:=x;exact Ak e
 |tup xs=>obtain⟨_,_,_,p⟩:=x;exact p.lt
 |dK kvs=>obtain⟨_,_,_,_,o,_,_,e,_⟩:=x;exact Ak e
 |dT kvs=>obtain⟨_,_,_,_,o,_,_,e,_⟩:=x;exact Ak e
 |set S n=>obtain⟨o,_,_,_,e,_⟩:=x;exact Ak e
 |ins C dx fs=>obtain⟨_,_,_,e,_⟩:=x;exact Ak e
 |own y=>obtain⟨_,e⟩:=x;exact Ak e
 |xd fs=>obtain⟨_,⟨_,_,_,e,_⟩,_⟩:=x;exact Ak e
 |rng lo hi=>obtain⟨_,_,_,e⟩:=x;exact Ak e
 |frz ob u=>obtain⟨e,_⟩:=x;exact Ak e
 |tbl ps=>exact Ak (show h.get? a=some _ from x)
 |met f y=>exact Ak (show h.get? a=some _ from x)
 |ext φ=>obtain⟨_,⟨_,e⟩,_⟩:=x;exact Ak e
def Paired.mapP{c d:Type}{F G:c->d->Prop}{l₁:List c}{l₂:List d}(h:Paired F l₁ l₂)(f:∀a b,F a b->G a b):Paired G l₁ l₂:=by
 induction h with
 |nil=>exact .nil
 |cons r _ ih=>exact .cons (f _ _ r) ih
def zB.stay(x:zB P w H h a o)(k:∀b u,(b=a\/H b=some (.own a))->h.get? b=some u->h'.get? b=some u)(j:∀b,H b=some (.own a)->H' b=some (.own a))(l:∀b xs,H b=some (.tup xs)->H' b=some (.tup xs)):zB P w H' h' a o:=by
 induction o with
 |lst xs=>obtain⟨z,g,n,r,e⟩:=x;exact⟨z,g,n,r,k _ _ (.inl rfl) e⟩
 |tup xs=>obtain⟨z,g,r,ob,e,c⟩:=x;exact⟨z,g,r,ob,k _ _ (.inl rfl) e,c⟩
 |dK kvs=>obtain⟨z,y,vs,r,ob,es,ep,e,c⟩:=x;exact⟨z,y,vs,r,ob,es,ep,k _ _ (.inl rfl) e,c⟩
 |dT kvs=>
  obtain⟨z,y,xs,r,ob,es,ep,e,c⟩:=x;exact⟨z,y,xs,Paired.mapP r fun p q z=>⟨z.1,l _ _ z.2.1,z.2.2⟩,ob,es,ep,k _ _ (.inl rfl) e,c⟩
 |set S n=>obtain⟨ob,es,ep,t,e,c⟩:=x;exact⟨ob,es,ep,t,k _ _ (.inl rfl) e,c⟩
 |ins C dx fs=>
  obtain⟨d,z,ne,e,mA,⟨i,es,ep,e2,c⟩,r⟩:=x;exact⟨j _ d,z,ne,k _ _ (.inl rfl) e,mA,⟨i,es,ep,k _ _ (.inr d) e2,c⟩,r⟩
 |own y=>obtain⟨ob,e⟩:=x;exact⟨ob,k _ _ (.inl rfl) e⟩
 |xd fs=>obtain⟨mA,⟨i,es,ep,e,c⟩,r⟩:=x;exact⟨mA,⟨i,es,ep,k _ _ (.inl rfl) e,c⟩,r⟩
 |rng lo hi=>obtain⟨t,u,v,e⟩:=x;exact⟨t,u,v,k _ _ (.inl rfl) e⟩
 |frz ob u ih=>obtain⟨e,q⟩:=x;exact⟨k _ _ (.inl rfl) e,ih q⟩
 |tbl ps=>
  have e:h.get? a=some {cls:=.none,data:=.fields ps}:=x;show h'.get? a=some {cls:=.none,data:=.fields ps};exact k a _ (.inl rfl) e
 |met f y=>
  have e:h.get? a=some (PySem.W.methodObj (.ref f) (.ref y)):=x;show h'.get? a=some (PySem.W.methodObj (.ref f) (.ref y));exact k a _ (.inl rfl) e
 |ext φ=>obtain⟨p,⟨o,e⟩,st⟩:=x;exact⟨st _ _ p fun o q=>k _ _ (.inl rfl) q,⟨o,k _ _ (.inl rfl) e⟩,st⟩
def HOk.lt(x:HOk P w H h)(e:H a=some o):a<h.objs.size:=(x a o e).lt
def HOk.fresh(x:HOk P w H h)(e:h.objs.size<=a):H a=none:=by
 cases q:H a with
 |none=>rfl
 |some u=>exact absurd (AB (x.lt q) e) (Nat.lt_irrefl _)
def HOk.kept(x:HOk P w H h)(k:∀b u,h.get? b=some u->h'.get? b=some u):HOk P w H h':=fun a o e=>
 (x a o e).stay (fun b u _ q=>k b u q) (fun _ q=>q) fun _ _ q=>q
def HOk.laid(x:HOk P w H h)(k:∀b u,h.get? b=some u->h'.get? b=some u)(hp:h.objs.size<=a)(new:zB P w (upd H a o) h' a o):HOk P w (upd H a o) h':=fun b u e=>by
 have d:=x.fresh hp
 by_cases hb:b=a
 ·subst hb;rw[ai] at e;cases e;exact new
 ·rw[zl hb] at e
  exact(x b u e).stay (fun c v _ q=>k c v q) (fun c q=>by rw[zl (zg q d)];exact q) fun c xs q=>by rw[zl (zg q d)];exact q
end
def Rd(H:Hp)(a:Addr)(u:HO):Prop:=H a=some u\/∃o,H a=some (.frz o u)
def Rd.of{H:Hp}{a:Addr}{u:HO}(h:H a=some u):Rd H a u:=.inl h
def Rd.ok{P:Program}{w:World}{H:Hp}{h:Heap}{a:Addr}{u:HO}(r:Rd H a u)(x:HOk P w H h):zB P w H h a u:=by
 rcases r with r|⟨o,r⟩
 ·exact x a u r
 ·obtain⟨_,q⟩:=x a _ r
  exact q
def l':Option HO->Prop
 |some (.lst _)=>True
 |some (.dK _)=>True
 |some (.dT _)=>True
 |some (.set _ _)=>True
 |some (.ins _ _ _)=>True
 |some (.ext _)=>True
 |_=>False
section
variable{P:Program}{w:World}{H:Hp}{h h':Heap}{x e:Addr}{o':HO}
def HOk.write(ok:HOk P w H h)(g:l' (H x))(he:e=x\/H e=some (.own x))(k:∀b u,b≠e->h.get? b=some u->h'.get? b=some u)(l:∃u,h'.get? e=some u)(new:zB P w (upd H x o') h' x o'):HOk P w (upd H x o') h':=fun b u q=>by
 have d:∀c y,H c=some (.own y)->c≠x:=fun c y r z=>by subst z;rw[r] at g;exact g
 have f:∀c xs,H c=some (.tup xs)->c≠x:=fun c xs r z=>by subst z;rw[r] at g;exact g
 by_cases hb:b=x
 ·subst hb;rw[ai] at q;cases q;exact new
 ·rw[zl hb] at q
  by_cases a:b=e
  ·have i:H b=some (.own x):=by
    rcases he with z|z
    ·exact absurd (a.trans z) hb
    ·rw[a];exact z
   rw[q] at i;cases i;obtain⟨v,j⟩:=l;exact⟨v,by rw[a];exact j⟩
  ·refine(ok b u q).stay (fun c v hc r=>k c v ?_ r) (fun c r=>by rw[zl (d c b r)];exact r) fun c xs r=>by rw[zl (f c xs r)];exact r
   rcases hc with rfl|hc
   ·exact a
   ·rintro rfl
    rcases he with z|z
    ·exact d c b hc z
    ·rw[hc] at z;cases z;exact hb rfl
end
structure Un(fs ex:List Addr)(H H':Hp)(h h':Heap):Prop where
 keep:∀b o,h.get? b=some o->H b=none->b∉fs->b∉ex->h'.get? b=some o
 slot:∀b o,h.get? b=some o->H b=none->b∈fs->b∉ex->∃sl,h'.get? b=some {o with slots:=sl}
 free:∀b o,h.get? b=some o->H b=none->b∉ex->H' b=none
 there:∀b o,h.get? b=some o->b∉ex->∃o',h'.get? b=some o'
 tups:∀b xs,H b=some (.tup xs)->H' b=some (.tup xs)
 frzs:∀b o u,H b=some (.frz o u)->H' b=some (.frz o u)
 tbls:∀b ps,H b=some (.tbl ps)->∃more,H' b=some (.tbl (ps++more))
section
variable{fs yd ex Bq:List Addr}{H H1 H2:Hp}{h h1 h2 h':Heap}{a x e:Addr}{o:HO}
def Un.any(u:Un fs ex H H1 h h1){b:Addr}{ob:Obj}(q:h.get? b=some ob)(n:H b=none)(hx:b∉ex):∃a,h1.get? b=some {ob with slots:=a}:=by
 by_cases hb:b∈fs
 ·exact u.slot b ob q n hb hx
 ·exact⟨ob.slots,u.keep b ob q n hb hx⟩
def Un.kept(k:∀b u,h.get? b=some u->h'.get? b=some u):Un fs ex H H h h':=
 ⟨fun b ob q _ _ _=>k b ob q,fun b ob q _ _ _=>⟨ob.slots,k b ob q⟩,fun _ _ _ n _=>n,fun b ob q _=>⟨ob,k b ob q⟩,fun _ _ q=>q,fun _ _ _ q=>q,fun _ ps q=>⟨#[],by rw[q];simp⟩⟩
def Un.refl:Un fs ex H H h h:=Un.kept fun _ _ q=>q
def Un.laid(k:∀b u,h.get? b=some u->h'.get? b=some u)(hp:h.objs.size<=a)(c:H a=none):Un fs ex H (upd H a o) h h' where
 keep:=fun b u q _ _ _=>k b u q
 slot:=fun b u q _ _ _=>⟨u.slots,k b u q⟩
 free:=fun b u q n _=>by rw[zl (Ao (AB (Ak q) hp))];exact n
 there:=fun b u q _=>⟨u,k b u q⟩
 tups:=fun b xs q=>by rw[zl (zg q c)];exact q
 frzs:=fun b u xs q=>by rw[zl (zg q c)];exact q
 tbls:=fun b ps q=>⟨#[],by rw[zl (zg q c),q];simp⟩
def Un.write(c:l' (H x))(he:e=x\/H e=some (.own x))(k:∀b u,b≠e->h.get? b=some u->h'.get? b=some u)(d:∃u,h'.get? e=some u):Un fs ex H (upd H x o) h h':=by
 have hx:∀b,H b=none->b≠x:=fun b n z=>by subst z;rw[n] at c;exact c
 have hb:∀b,H b=none->b≠e:=fun b n z=>by
  subst z;rcases he with r|r
  ·exact hx b n r
  ·rw[n] at r;cases r
 have hm:∀b u,H b=some u->¬l' (some u)->b≠x:=fun b u q nm z=>by subst z;rw[q] at c;exact nm c
 refine⟨fun b u q n _ _=>k b u (hb b n) q,fun b u q n _ _=>⟨u.slots,k b u (hb b n) q⟩,fun b u q n _=>by rw[zl (hx b n)];exact n,fun b u q _=>?_,
  fun b xs q=>by rw[zl (hm b _ q fun z=>z)];exact q,fun b u xs q=>by rw[zl (hm b _ q fun z=>z)];exact q,fun b ps q=>⟨#[],by rw[zl (hm b _ q fun z=>z),q];simp⟩⟩
 by_cases a:b=e
 ·subst a;exact d
 ·exact⟨u,k b u a q⟩
end
def qa(h:Heap)(H:Hp):List Addr:=(Ba h.objs.size).filter fun a=>(H a).isSome
def db(h:Heap)(H:Hp):Heap:=PySem.W.hideAll h (qa h H)
def HW(h:Heap)(H:Hp):(db h H).objs.size=h.objs.size:=PySem.W.hideAll_size _ _
def HX{h:Heap}{H:Hp}{b:Addr}{o:Obj}(e:h.get? b=some o)(n:H b=none):(db h H).get? b=some o:=
 PySem.W.hideAll_get _ e fun hm=>by
  have q:(H b).isSome=true:=(List.mem_filter.mp hm).2;rw[n] at q;simp at q
def HY{h:Heap}{H:Hp}{b:Addr}{o:Obj}(e:(db h H).get? b=some o):h.get? b=some o/\H b=none:=by
 have a:h.get? b=some o:=PySem.W.of_hideAll (qa h H) e;refine⟨a,?_⟩;cases q:H b with
 |none=>rfl
 |some x=>
  have hm:b∈qa h H:=List.mem_filter.mpr ⟨List.mem_range.mpr (Ak a),by simp[q]⟩;have z:(db h H).get? b=none:=PySem.W.hideAll_none (qa h H) hm;rw[z] at e;cases e
def HZ(g h:Heap)(L:Addr):Ψ:=(Ba h.objs.size).filterMap fun a=>if a=L\/(g.get? a).isSome=true then none else(h.get? a).map fun o=>(a,o)
def rest(g h:Heap)(L d:Addr):Ψ:=(HZ g h L).filter fun p=>decide (p.1≠d)
structure Mod(K:Ae)(mg:Str->Option Value)(base:Heap):Prop where
 kin:K.In base
 glob:base.Ns mainGlobals mg
 blt:∃mb,base.Ns builtinsNs mb/\∀x:Str,x≠"__name__"->mb x=AX x
 nolimit:base.NoLimit
structure Cx where
 prog:Program
 w:World
 K:Ae
 mg:Str->Option Value
 base:Heap
 A:Around
 N:List Str
 s₀:Shared
 H₀:Hp
 env:Env
 outer:List Env
 stack:List Env
 ex:List Addr
 fn:Str->Bool
 calm:Bool
 pn:Ψ
 xe:Ω
def frs(l:List Env):List Addr:=l.filterMap (·.frame)
abbrev Cx.fs(X:Cx):List Addr:=frs X.outer
def me(a:Scope)(x:Str):Prop:=a.names.lookup x=some .local\/a.names.lookup x=some .cell\/a.names.lookup x=some .free
def Loc(a:Scope)(x:Str):Prop:=a.names.lookup x=some .local\/a.names.lookup x=some .cell
def Look(env:Env)(h:Heap)(m:Str->Option Value)(x:Str)(u:Value):Prop:=
 (env.kindOf x=some .local/\m x=some u)\/((env.kindOf x=some .cell\/env.kindOf x=some .free)/\∃c,env.cells.lookup x=some c/\h.IsCell c (some u))
structure Cx.Ok(X:Cx):Prop where
 mod:Mod X.K X.mg X.base
 kind:X.env.scope.kind=.function
 glob:X.env.globals=mainGlobals
 blt:X.env.builtins=builtinsNs
 above:X.s₀⁻¹<=X.env.locals
 inj:∀x y c,X.env.cells.lookup x=some c->X.env.cells.lookup y=some c->x=y
 has:∀x,(X.env.kindOf x=some .cell\/X.env.kindOf x=some .free)->∃c,X.env.cells.lookup x=some c
 cab:∀x c,X.fn x=true->X.env.cells.lookup x=some c->X.s₀⁻¹<=c
 hd:X.calm=true->X.A.handled=none
 frames:X.A.frames=some X.stack
 stk:X.stack=X.outer\/(X.stack=X.env::X.outer/\X.env.frame=some X.env.locals)
 exf:∀b∈X.ex,b≠X.env.locals/\∀x c,X.env.cells.lookup x=some c->c≠b
 bs:∀b o,X.base.get? b=some o->X.s₀.heap.get? b=some o/\X.H₀ b=none
 bsz:X.base.objs.size<=X.s₀⁻¹
 noex:∀b o,X.base.get? b=some o->b∉X.ex
 exfs:∀b∈X.ex,b∉X.fs
 funs:X.s₀.heap.FunFrames X.base X.outer
 frf:∀b∈X.fs,X.H₀ b=none
structure Inv(X:Cx)(aa:Ψ)(σ:List (Option V))(H:Hp)(s:Shared):Prop where
 ok:X.Ok
 os:s.os=X.s₀.os
 bare:AllBare s.gens
 base:Un X.fs X.ex X.H₀ H X.s₀.heap s.heap
 loc:∃m,s.heap.Ns X.env.locals m/\∀(i:Nat)(x:Str)(v:V),X.N[i]?=some x->σ[i]?=some (some v)->me X.env.scope x->∃u,RelV v u/\Look X.env s.heap m x u
 cell:∀x c,X.env.cells.lookup x=some c->∃v,s.heap.IsCell c v
 free:H X.env.locals=none
 freeC:∀x c,X.env.cells.lookup x=some c->H c=none
 pin:∀p∈X.pn++aa,s.heap.get? p.1=some p.2/\H p.1=none/\p.1≠X.env.locals/\p.1∉X.fs/\∀v,p.2.data≠.cell v
 hok:HOk X.prog X.w H s.heap
 len:σ.length=X.N.length
section
variable{X:Cx}{aa:Ψ}{σ:List (Option V)}{H H':Hp}{s:Shared}{h':Heap}
def Cx.Ok.nofr(ok:X.Ok){b:Addr}{o:Obj}(e:X.base.get? b=some o):b∉X.fs:=fun hb=>by
 have:=(ok.funs.mem hb).1;rw[e] at this;cases this
def Inv.bs(I:Inv X aa σ H s):∀b o,X.base.get? b=some o->s.heap.get? b=some o/\H b=none:=fun b o e=>
 ⟨I.base.keep b o (I.ok.bs b o e).1 (I.ok.bs b o e).2 (I.ok.nofr e) (I.ok.noex b o e),I.base.free b o (I.ok.bs b o e).1 (I.ok.bs b o e).2 (I.ok.noex b o e)⟩
def Inv.bk(I:Inv X aa σ H s):∀b o,X.base.get? b=some o->s.heap.get? b=some o:=fun b o e=>(I.bs b o e).1
def Inv.mod(I:Inv X aa σ H s):Mod X.K X.mg X.base:=I.ok.mod
def Inv.kIn(I:Inv X aa σ H s):X.K.In s.heap:=I.ok.mod.kin.keeps I.bk
def Inv.nolimit(I:Inv X aa σ H s):s.heap.NoLimit:=I.ok.mod.nolimit.keeps I.bk
def Inv.fr(I:Inv X aa σ H s):∃m,Fr X.base X.env.locals s.heap m:=
 let ⟨m,hn,_⟩:=I.loc
 ⟨m,hn,I.bk,AO I.ok.bsz I.ok.above⟩
def Inv.lt(I:Inv X aa σ H s):X.env.locals<s⁻¹:=let ⟨_,hn,_⟩:=I.loc;hn.lt
def Inv.sz(I:Inv X aa σ H s):X.s₀⁻¹<=s⁻¹:=AO I.ok.above (Nat.le_of_lt I.lt)
def Inv.nofs(I:Inv X aa σ H s){a:Addr}(h:s⁻¹<=a):a∉X.fs:=fun hb=>by
 obtain⟨_,o,b,_⟩:=I.ok.funs.mem hb;exact absurd (AB (Ak b) (AO I.sz h)) (Nat.lt_irrefl _)
def Inv.cne(I:Inv X aa σ H s):∀x c,X.env.cells.lookup x=some c->c≠X.env.locals:=fun x c e z=>by
 obtain⟨v,o,d,hd⟩:=I.cell x c e;obtain⟨m,⟨o',es,ep,a,b,_⟩,_⟩:=I.loc;rw[z,a] at d;cases d;rw[b] at hd;cases hd
def Inv.funs(I:Inv X aa σ H s):s.heap.FunFrames X.base X.outer:=by
 have all:∀(l:List Env),(∀b∈frs l,b∈X.fs)->X.s₀.heap.FunFrames X.base l->s.heap.FunFrames X.base l:=by
  intro l
  induction l with
  |nil=>intro _ _;trivial
  |cons env r ih=>
   intro hs c;obtain⟨hk,⟨L,o,hf,d,f,hd⟩,hr⟩:=c;have a:L∈X.fs:=hs L (by unfold frs;rw[List.filterMap_cons,hf];exact Av);obtain⟨g,e⟩:=I.base.slot L o f (I.ok.frf L a) a fun z=>I.ok.exfs L z a;exact⟨hk,⟨L,_,hf,d,e,hd⟩,ih (fun b hb=>hs b (by unfold frs;rw[List.filterMap_cons,hf];exact Ay _ hb)) hr⟩
 exact all X.outer (fun _ hb=>hb) I.ok.funs
def Inv.stack(I:Inv X aa σ H s):s.heap.FunFrames X.base X.stack:=by
 rcases I.ok.stk with e|⟨e,hf⟩
 ·rw[e];exact I.funs
 ·rw[e]
  obtain⟨m,a,_⟩:=I.loc;refine .cons (by rw[I.ok.kind];decide) hf a ?_ I.funs;exact Heap.get?_none_of_le (AO I.ok.bsz I.ok.above)
def Inv.stkSub(I:Inv X aa σ H s):∀b∈frs X.stack,b∈X.env.locals::X.fs:=fun b hb=>by
 rcases I.ok.stk with e|⟨e,hf⟩
 ·rw[e] at hb;exact Ay _ hb
 ·rw[e] at hb
  unfold frs at hb;rw[List.filterMap_cons,hf] at hb;exact hb
def Inv.stkFree(I:Inv X aa σ H s):∀b∈frs X.stack,H b=none:=fun b hb=>by
 rcases List.mem_cons.mp (I.stkSub b hb) with e|hb
 ·rw[e];exact I.free
 ·obtain⟨_,o,a,_⟩:=I.ok.funs.mem hb
  exact I.base.free b o a (I.ok.frf b hb) fun z=>I.ok.exfs b z hb
def Inv.step{g':Array GenState}{t':Nat}{d':Drawn}{ch:List Addr}(I:Inv X aa σ H s)(h:∀b∈ch,(b∈X.ex\/X.s₀⁻¹<=b)/\b≠X.env.locals/\(∀x c,X.env.cells.lookup x=some c->c≠b)/\∀p∈X.pn++aa,p.1≠b)(keep:∀b o,b≠X.env.locals->b∉X.fs->b∉ch->s.heap.get? b=some o->H b=none->h'.get? b=some o)(slot:∀b o,b≠X.env.locals->b∈X.fs->b∉ch->s.heap.get? b=some o->H b=none->∃A,h'.get? b=some {o with slots:=A})(free:∀b o,b∉ch->s.heap.get? b=some o->H b=none->H' b=none)(there:∀b o,b∉ch->s.heap.get? b=some o->∃o',h'.get? b=some o')(tups:∀b xs,H b=some (.tup xs)->H' b=some (.tup xs))(frzs:∀b o u,H b=some (.frz o u)->H' b=some (.frz o u))(tbls:∀b ps,H b=some (.tbl ps)->∃more,H' b=some (.tbl (ps++more)))(ns:∀m,s.heap.Ns X.env.locals m->h'.Ns X.env.locals m)(C:HOk X.prog X.w H' h')(L:AllBare g'):Inv X aa σ H' {s with heap:=h',gens:=g',drawn:=d',toks:=t'}:=by
 have j:∀b o,X.s₀.heap.get? b=some o->b≠X.env.locals:=fun b o e=>Ao (AB (Ak e) I.ok.above);have y:∀b o,X.s₀.heap.get? b=some o->b∉X.ex->b∉ch:=fun b o e hx hb=>by
  rcases(h b hb).1 with z|z
  ·exact hx z
  ·exact absurd (AB (Ak e) z) (Nat.lt_irrefl _)
 have a:∀x c,X.env.cells.lookup x=some c->∀v,s.heap.IsCell c v->h'.IsCell c v:=fun x c e v ⟨o,g,hd⟩=>by
  have f:c∉ch:=fun z=>(h c z).2.2.1 x c e rfl
  by_cases hc:c∈X.fs
  ·obtain⟨A,q⟩:=slot c o (I.cne x c e) hc f g (I.freeC x c e)
   exact⟨_,q,hd⟩
  ·exact⟨o,keep c o (I.cne x c e) hc f g (I.freeC x c e),hd⟩
 refine⟨I.ok,I.os,L,⟨fun b o e n hb hx=>?_,fun b o e n hb hx=>?_,fun b o e n hx=>?_,fun b o e hx=>?_,fun b xs e=>tups b xs (I.base.tups b xs e),fun b o xs e=>frzs b o xs (I.base.frzs b o xs e),fun b ps e=>?_⟩,?_,fun x c e=>?_,?_,fun x c e=>?_,fun p hp=>?_,C,I.len⟩
 ·exact keep b o (j b o e) hb (y b o e hx) (I.base.keep b o e n hb hx) (I.base.free b o e n hx)
 ·obtain⟨A,e1⟩:=I.base.slot b o e n hb hx
  obtain⟨E,e2⟩:=slot b _ (j b o e) hb (y b o e hx) e1 (I.base.free b o e n hx);exact⟨E,e2⟩
 ·obtain⟨o',e1⟩:=I.base.there b o e hx
  exact free b o' (y b o e hx) e1 (I.base.free b o e n hx)
 ·obtain⟨o',e1⟩:=I.base.there b o e hx
  exact there b o' (y b o e hx) e1
 ·obtain⟨F,e1⟩:=I.base.tbls b ps e
  obtain⟨m2,e2⟩:=tbls b _ e1;exact⟨F++m2,by rw[e2,Array.append_assoc]⟩
 ·obtain⟨m,G,J⟩:=I.loc
  refine⟨m,ns m G,fun i x v e1 e2 e3=>?_⟩;obtain⟨u,r,l⟩:=J i x v e1 e2 e3;refine⟨u,r,?_⟩;rcases l with l|⟨k,c,e,z⟩
  ·exact .inl l
  ·exact .inr ⟨k,c,e,a x c e _ z⟩
 ·obtain⟨v,z⟩:=I.cell x c e
  exact⟨v,a x c e v z⟩
 ·obtain⟨m,⟨o,_,_,g,_⟩,_⟩:=I.loc
  exact free _ o (fun z=>(h _ z).2.1 rfl) g I.free
 ·obtain⟨v,o,g,hd⟩:=I.cell x c e
  exact free c o (fun z=>(h c z).2.2.1 x c e rfl) g (I.freeC x c e)
 ·obtain⟨e,n,ne,D,d⟩:=I.pin p hp
  have f:p.1∉ch:=fun z=>(h p.1 z).2.2.2 p hp rfl;exact⟨keep p.1 p.2 ne D f e n,free p.1 p.2 f e n,ne,D,d⟩
def Inv.un{t':Nat}(I:Inv X aa σ H s)(u:Un X.fs [] H H' s.heap h')(c:HOk X.prog X.w H' h'):Inv X aa σ H' {s with heap:=h',toks:=t'}:=by
 obtain⟨m,⟨o,es,ep,d,r⟩,_⟩:=id I.loc;obtain⟨j,f⟩:=u.any d I.free (by simp);exact I.step (g':=s.gens) (d':=s.drawn) (ch:=[]) (fun _ z=>nomatch z) (fun b o _ hb _ e n=>u.keep b o e n hb (by simp)) (fun b o _ hb _ e n=>u.slot b o e n hb (by simp)) (fun b o _ e n=>u.free b o e n (by simp)) (fun b o _ e=>u.there b o e (by simp)) u.tups u.frzs u.tbls (fun i hm=>by
  obtain⟨o',es',g,a,h⟩:=hm;rw[d] at a;cases a;exact⟨_,es',g,f,h⟩) c I.bare
def Inv.call{g':Array GenState}{t':Nat}{d':Drawn}{ch:List Addr}(I:Inv X aa σ H s)(u:Un (frs X.stack) ch H H' s.heap h')(f:HOk X.prog X.w H' h')(l:AllBare g')(h:∀b∈ch,(b∈X.ex\/X.s₀⁻¹<=b)/\b≠X.env.locals/\(∀x c,X.env.cells.lookup x=some c->c≠b)/\∀p∈X.pn++aa,p.1≠b):Inv X aa σ H' {s with heap:=h',gens:=g',drawn:=d',toks:=t'}:=by
 obtain⟨m,⟨o,es,ep,g,r⟩,_⟩:=id I.loc;obtain⟨v,d⟩:=u.any g I.free fun z=>(h _ z).2.1 rfl;exact I.step (ch:=ch) h (fun b o d hb hc e n=>u.keep b o e n (fun z=>(List.mem_cons.mp (I.stkSub b z)).elim d hb) hc) (fun b o _ _ hc e n=>u.any e n hc) (fun b o hc e n=>u.free b o e n hc) (fun b o hc e=>u.there b o e hc) u.tups u.frzs u.tbls (fun q hm=>by
  obtain⟨o',es',i,a,j⟩:=hm;rw[g] at a;cases a;exact⟨_,es',i,d,j⟩) f l
def Inv.turned{t':Nat}{it:Addr}(I:Inv X aa σ H s)(k:∀b o,b≠it->s.heap.get? b=some o->h'.get? b=some o)(g:H it=none)(d:it≠X.env.locals)(h1:it∈X.ex\/X.s₀⁻¹<=it)(h2:∀x c,X.env.cells.lookup x=some c->c≠it)(h:∀p∈X.pn++aa,p.1≠it):Inv X aa σ H {s with heap:=h',toks:=t'}:=by
 have a:∀b u,H b=some u->b≠it:=fun b u e z=>by rw[z,g] at e;cases e
 refine I.step (g':=s.gens) (d':=s.drawn) (ch:=[it]) (fun b hb=>?_) (fun b o _ _ hc e _=>k b o (fun z=>hc (by simp[z])) e) (fun b o _ _ hc e _=>⟨o.slots,k b o (fun z=>hc (by simp[z])) e⟩) (fun _ _ _ _ n=>n)
  (fun b o hc e=>⟨o,k b o (fun z=>hc (by simp[z])) e⟩) (fun _ _ e=>e) (fun _ _ _ e=>e) (fun b ps e=>⟨#[],by rw[e];simp⟩) (fun m hm=>?_) (fun b u e=>?_) I.bare
 ·have e:b=it:=by simpa using hb
  subst e;exact⟨h1,d,h2,h⟩
 ·obtain⟨o,es,ep,f,r⟩:=hm
  exact⟨o,es,ep,k _ o (Ne.symm d) f,r⟩
 ·refine(I.hok b u e).stay (fun c v hc q=>k c v ?_ q) (fun _ q=>q) fun _ _ q=>q
  rcases hc with z|z
  ·rw[z];exact a b u e
  ·exact a c _ z
def Inv.tok(I:Inv X aa σ H s)(t:Nat):Inv X aa σ H {s with toks:=t}:=I.un (h':=s.heap) (t':=t) Un.refl I.hok
def Inv.kept{t':Nat}(I:Inv X aa σ H s)(k:∀b u,s.heap.get? b=some u->h'.get? b=some u):Inv X aa σ H {s with heap:=h',toks:=t'}:=I.un (Un.kept k) (I.hok.kept k)
def Inv.laid{a:Addr}{o:HO}{t':Nat}(I:Inv X aa σ H s)(k:∀b u,s.heap.get? b=some u->h'.get? b=some u)(hp:s⁻¹<=a)(new:zB X.prog X.w (upd H a o) h' a o):Inv X aa σ (upd H a o) {s with heap:=h',toks:=t'}:=I.un (Un.laid k hp (I.hok.fresh hp)) (I.hok.laid k hp new)
def Inv.write{x e:Addr}{o:HO}{t':Nat}(I:Inv X aa σ H s)(a:l' (H x))(he:e=x\/H e=some (.own x))(k:∀b u,b≠e->s.heap.get? b=some u->h'.get? b=some u)(c:∃u,h'.get? e=some u)(new:zB X.prog X.w (upd H x o) h' x o):Inv X aa σ (upd H x o) {s with heap:=h',toks:=t'}:=I.un (Un.write a he k c) (I.hok.write a he k c new)
def Inv.pins_of{bP:Ψ}(I:Inv X aa σ H s)(h:∀p∈bP,s.heap.get? p.1=some p.2/\H p.1=none/\p.1≠X.env.locals/\p.1∉X.fs/\∀v,p.2.data≠.cell v):Inv X bP σ H s:=
 ⟨I.ok,I.os,I.bare,I.base,I.loc,I.cell,I.free,I.freeC,fun p hp=>(List.mem_append.mp hp).elim (fun z=>I.pin p (List.mem_append_left _ z)) (h p),I.hok,I.len⟩
def vr{N:List Str}(c:N.Nodup){i j:Nat}{x:Str}(a:N[i]?=some x)(b:N[j]?=some x):i=j:=by
 obtain⟨h1,e1⟩:=List.getElem?_eq_some_iff.mp a;obtain⟨h2,e2⟩:=List.getElem?_eq_some_iff.mp b;exact(List.getElem_inj c).mp (e1.trans e2.symm)
def Dd{M:Model}{A:Around}{E:Ω}{i:Nat}{x:Str}{v:V}{u:Value}{Q:Unit->Shared->Prop}(I:Inv X aa σ H s)(hN:X.N.Nodup)(hi:X.N[i]?=some x)(hx:Loc X.env.scope x)(r:RelV v u)(h:∀s',Inv X aa (σ.set i (some v)) H s'->(∃a,AQ a s.heap s'.heap/\(a=X.env.locals\/X.env.cells.lookup x=some a))->Q () s')(hf:X.fn x=true\/X.env.scope.names.lookup x=some .local:=by first|exact .inl rfl|exact .inr rfl|assumption):wpAny M A (storeName X.env x u) Q E s:=by
 obtain⟨m,G,W⟩:=id I.loc;have iH:(X.env.scope.kind==.class|| (X.env.scope.kind==.module&&X.env.locals != X.env.globals))=false:=by rw[I.ok.kind];rfl
 have f:i<σ.length:=by rw[I.len];exact(List.getElem?_eq_some_iff.mp hi).1
 have cne:=I.cne;have dB:∀{a:Addr}{h':Heap},(∃o,s.heap.get? a=some o/\H a=none)->AQ a s.heap h'->HOk X.prog X.w H h':=fun{a h'} ha hs b ob e=>by
  obtain⟨_,_,Y⟩:=ha;refine(I.hok b ob e).stay (fun c C hc q=>(hs.2 c ?_).trans q) (fun _ q=>q) fun _ _ q=>q;rintro rfl;rcases hc with rfl|hc
  ·rw[Y] at e;cases e
  ·rw[Y] at hc;cases hc
 rcases hx with hk|hk
 ·refine wpAny_storeName_local hk G (fun h' fT hs=>?_) iH
  obtain⟨oL,_,_,J,_⟩:=id G;refine h _ ⟨I.ok,I.os,I.bare,⟨fun b o e n hb hx=>?_,fun b o e n hb hx=>?_,I.base.free,fun b o e hx=>?_,I.base.tups,I.base.frzs,I.base.tbls⟩,⟨_,fT,fun j y F e1 e2 e3=>?_⟩,fun y c e=>?_,I.free,I.freeC,fun p hp=>?_,dB ⟨oL,J,I.free⟩ hs,by simpa using I.len⟩ ⟨_,hs,.inl rfl⟩
  ·exact(hs.2 b (Ao (AB (Ak e) I.ok.above))).trans (I.base.keep b o e n hb hx)
  ·obtain⟨L,e1⟩:=I.base.slot b o e n hb hx
   exact⟨L,(hs.2 b (Ao (AB (Ak e) I.ok.above))).trans e1⟩
  ·obtain⟨o',e1⟩:=I.base.there b o e hx
   exact⟨o',(hs.2 b (Ao (AB (Ak e) I.ok.above))).trans e1⟩
  ·by_cases g:j=i
   ·subst g
    rw[hi] at e1;cases e1;rw[List.getElem?_set_self f] at e2;cases e2;exact⟨u,r,.inl ⟨hk,by simp⟩⟩
   ·rw[List.getElem?_set_ne (Ne.symm g)] at e2
    obtain⟨O,P,q⟩:=W j y F e1 e2 e3;refine⟨O,P,?_⟩;rcases q with ⟨k,e⟩|⟨k,c,e,z⟩
    ·refine .inl ⟨k,?_⟩
     have:y≠x:=fun e=>g (vr hN e1 (e▸hi));simp[this,e]
    ·exact .inr ⟨k,c,e,z.sameBut hs (cne y c e)⟩
  ·obtain⟨C,z⟩:=I.cell y c e
   exact⟨C,z.sameBut hs (cne y c e)⟩
  ·obtain⟨e,n,ne,S,d⟩:=I.pin p hp
   exact⟨(hs.2 p.1 ne).trans e,n,ne,S,d⟩
 ·have T:X.fn x=true:=by
   rcases hf with z|z
   ·exact z
   ·rw[z] at hk;cases hk
  obtain⟨c,hc⟩:=I.ok.has x (.inl hk);obtain⟨C,z⟩:=I.cell x c hc;refine wpAny_storeName_cell I.ok.kind hk hc z (fun h' U hs=>?_);obtain⟨Z,pW,om⟩:=id z;refine h {s with heap:=h'} ⟨I.ok,I.os,I.bare,⟨fun b o e n hb hx=>?_,fun b o e n hb hx=>?_,I.base.free,fun b o e hx=>?_,I.base.tups,I.base.frzs,I.base.tbls⟩,⟨m,G.sameBut hs (Ne.symm (cne x c hc)),fun j y F e1 e2 e3=>?_⟩,fun y D e=>?_,I.free,I.freeC,fun p hp=>?_,dB ⟨Z,pW,I.freeC x c hc⟩ hs,by simpa using I.len⟩ ⟨c,hs,.inr hc⟩
  ·exact(hs.2 b (Ao (AB (Ak e) (I.ok.cab x c T hc)))).trans (I.base.keep b o e n hb hx)
  ·obtain⟨L,e1⟩:=I.base.slot b o e n hb hx
   exact⟨L,(hs.2 b (Ao (AB (Ak e) (I.ok.cab x c T hc)))).trans e1⟩
  ·obtain⟨o',e1⟩:=I.base.there b o e hx
   exact⟨o',(hs.2 b (Ao (AB (Ak e) (I.ok.cab x c T hc)))).trans e1⟩
  ·by_cases g:j=i
   ·subst g
    rw[hi] at e1;cases e1;rw[List.getElem?_set_self f] at e2;cases e2;exact⟨u,r,.inr ⟨.inl hk,c,hc,U⟩⟩
   ·rw[List.getElem?_set_ne (Ne.symm g)] at e2
    obtain⟨O,P,q⟩:=W j y F e1 e2 e3;refine⟨O,P,?_⟩;rcases q with q|⟨k,D,e,z'⟩
    ·exact .inl q
    ·refine .inr ⟨k,D,e,z'.sameBut hs ?_⟩
     rintro rfl;exact g (vr hN e1 (I.ok.inj _ _ _ e hc▸hi))
  ·by_cases l:D=c
   ·subst l;exact⟨_,U⟩
   ·obtain⟨w2,z2⟩:=I.cell y D e
    exact⟨w2,z2.sameBut hs l⟩
  ·obtain⟨e,n,ne,S,d⟩:=I.pin p hp
   refine⟨(hs.2 p.1 ?_).trans e,n,ne,S,d⟩;intro q;rw[q,pW] at e;have q':Z=p.2:=An e;exact d C (by rw[<-q'];exact om)
def qf{M:Model}{A:Around}{E:Ω}{i:Nat}{x:Str}{v:V}{u:Value}{Q:Unit->Shared->Prop}(I:Inv X aa σ H s)(a:X.N.Nodup)(hi:X.N[i]?=some x)(hx:Loc X.env.scope x)(r:RelV v u)(h:∀s',Inv X aa (σ.set i (some v)) H s'->Q () s')(hf:X.fn x=true\/X.env.scope.names.lookup x=some .local:=by first|exact .inl rfl|exact .inr rfl|assumption):wpAny M A (storeName X.env x u) Q E s:=
 Dd I a hi hx r (fun s' b _=>h s' b) hf
def Inv.call'{s':Shared}{ch:List Addr}(I:Inv X aa σ H s)(d:s'.os=s.os)(u:Un (frs X.stack) ch H H' s.heap s'.heap)(a:HOk X.prog X.w H' s'.heap)(f:AllBare s'.gens)(g:∀b∈ch,(b∈X.ex\/X.s₀⁻¹<=b)/\b≠X.env.locals/\(∀x c,X.env.cells.lookup x=some c->c≠b)/\∀p∈X.pn++aa,p.1≠b):Inv X aa σ H' s':=by
 obtain⟨h',g',d',t',o'⟩:=s';have e:o'=s.os:=d;subst e;exact I.call (g':=g') (t':=t') (d':=d') u a f g
end
abbrev XK:=Value->Option Addr->Hp->Prop
abbrev St:=List (Option V)
abbrev VK:=V->Hp->Prop
abbrev TE:=St->Hp->VK->Prop
abbrev TT:=St->Hp->(Bool->Hp->Prop)->Prop
abbrev TA:=St->Hp->(List V->Hp->Prop)->Prop
structure Ends where
 nx:St->Hp->Prop
 rt:VK
 bk:St->Hp->Prop:=fun _ _=>False
 ct:St->Hp->Prop:=fun _ _=>False
abbrev TS:=Ends->St->Hp->Prop
def EP(X:Cx)(aa:Ψ)(σ:St)(Q:VK)(u:Value)(s':Shared):Prop:=∃v H',Inv X aa σ H' s'/\RelV v u/\Q v H'
def TP(X:Cx)(aa:Ψ)(σ:St)(Q:Bool->Hp->Prop)(b:Bool)(s':Shared):Prop:=∃H',Inv X aa σ H' s'/\Q b H'
def AP(X:Cx)(aa:Ψ)(σ:St)(Q:List V->Hp->Prop)(us:List Value)(s':Shared):Prop:=∃vs H',Inv X aa σ H' s'/\Vals vs us/\Q vs H'
def SP(X:Cx)(aa:Ψ)(D:Ends)(f:Flow)(s':Shared):Prop:=
 match f with
 |.next=>∃a H',Inv X aa a H' s'/\D.nx a H'
 |.brk=>∃a H',Inv X aa a H' s'/\D.bk a H'
 |.cont=>∃a H',Inv X aa a H' s'/\D.ct a H'
 |.ret u=>∃v a H',Inv X aa a H' s'/\RelV v u/\D.rt v H'
def PE(X:Cx)(e:Expr)(t:TE):Prop:=
 ∀(aa:Ψ)(s:Shared)(σ:St)(H:Hp)(Q:VK),Inv X aa σ H s->t σ H Q->wpAny (model X.prog X.w) X.A (eval e X.env) (EP X aa σ Q) X.xe s
def PT(X:Cx)(e:Expr)(t:TT):Prop:=
 ∀(aa:Ψ)(s:Shared)(σ:St)(H:Hp)(Q:Bool->Hp->Prop),Inv X aa σ H s->t σ H Q->wpAny (model X.prog X.w) X.A (isTrue e X.env (eval e X.env)) (TP X aa σ Q) X.xe s
def PW(X:Cx)(e:Expr)(t:TT):Prop:=
 ∀(a:Sem Value)(aa:Ψ)(s:Shared)(σ:St)(H:Hp)(Q:Bool->Hp->Prop),Inv X aa σ H s->t σ H Q->wpAny (model X.prog X.w) X.A (isTrue e X.env a) (TP X aa σ Q) X.xe s
def PW.pt{X:Cx}{e:Expr}{t:TT}(h:PW X e t):PT X e t:=h _
def PA(X:Cx)(es:List Expr)(t:TA):Prop:=
 ∀(pos:Pos)(aa:Ψ)(s:Shared)(σ:St)(H:Hp)(Q:List V->Hp->Prop),Inv X aa σ H s->t σ H Q->wpAny (model X.prog X.w) X.A (spliced (backTo pos (starEach es X.env))) (AP X aa σ Q) X.xe s
def PS(X:Cx)(st:Stmt)(t:TS):Prop:=
 ∀(aa:Ψ)(s:Shared)(σ:St)(H:Hp)(D:Ends),Inv X aa σ H s->t D σ H->wpAny (model X.prog X.w) X.A (exec st X.env) (SP X aa D) X.xe s
def PSs(X:Cx)(st:List Stmt)(t:TS):Prop:=
 ∀(aa:Ψ)(s:Shared)(σ:St)(H:Hp)(D:Ends),Inv X aa σ H s->t D σ H->wpAny (model X.prog X.w) X.A (execs st X.env) (SP X aa D) X.xe s
def aL{b:Type}{t:Sem b}{Q c:b->Shared->Prop}{M:Model}{A:Around}{E:Ω}{s:Shared}(h:wpAny M A t Q E s)(d:∀a s,Q a s->c a s):wpAny M A t c E s:=wpAny_mono h d fun _ _ x=>x
section
variable{X:Cx}
def ax(i:Nat):TE:=fun σ H Q=>∃v,σ[i]?=some (some v)/\Q v H
def tC(v:V):TE:=fun _ H Q=>Q v H
def H_{i:Nat}{x:Str}{pos:Pos}(f:X.N[i]?=some x)(g:me X.env.scope x)(hd:(x==("__debug__":Str))=false:=by decide)(j:(x==("__classdict__":Str))=false:=by decide):PE X (.Name x pos) (ax i):=by
 intro aa s σ H Q I h;obtain⟨v,e,h⟩:=h;obtain⟨m,b,d⟩:=I.loc;obtain⟨u,r,l⟩:=d i x v f e g;have fin:EP X aa σ Q u s:=⟨v,H,I,r,h⟩;rcases l with ⟨hk,hm⟩|⟨hk,c,hc,a⟩
 ·exact wpAny_Name (wpAny_loadName_local I.ok.kind hk b hm fin) hd
 ·rcases hk with hk|hk
  ·exact wpAny_Name (wpAny_loadName_cell I.ok.kind hk hc a fin) hd
  ·exact wpAny_Name (wpAny_loadName_free I.ok.kind hk hc a fin j) hd
def ze{i j pos}:PE X (.Constant (.int i) j pos) (tC (.int i)):=fun _ _ _ H _ I h=>wpAny_Constant_int ⟨.int i,H,I.tok _,⟨_,rfl⟩,h⟩
def dc{b j pos}:PE X (.Constant (.bool b) j pos) (tC (.bl b)):=fun _ _ _ H _ I h=>Constant_bool ⟨.bl b,H,I,rfl,h⟩
def Ia{j pos}:PE X (.Constant .none j pos) (tC .non):=fun _ _ _ H _ I h=>Constant_none ⟨.non,H,I,rfl,h⟩
def pe_str{x j pos}:PE X (.Constant (.str x) j pos) (tC (.str x)):=fun _ _ _ H _ I h=>Calls.Constant_str ⟨.str x,H,I.tok _,⟨_,rfl⟩,h⟩
def Gl(X:Cx)(x:Str):Prop:=X.env.kindOf x=some .globalImplicit
def mm{E:Ω}{aa:Ψ}{s:Shared}{σ:St}{H:Hp}{x:Str}{u:Value}{pos:Pos}{Q:Ω}(I:Inv X aa σ H s)(a:Gl X x)(hm:X.mg x=some u)(h:Q u s)(hd:(x==("__debug__":Str))=false:=by decide):wpAny (model X.prog X.w) X.A (eval (.Name x pos) X.env) Q E s:=
 Calls.Name_function_global I.ok.kind a (Calls.loadGlobal_global (by rw[I.ok.glob];exact I.mod.glob.keeps I.bk) hm h) hd
def je{E:Ω}{aa:Ψ}{s:Shared}{σ:St}{H:Hp}{x:Str}{u:Value}{pos:Pos}{Q:Ω}(I:Inv X aa σ H s)(a:Gl X x)(hm:X.mg x=none)(b:AX x=some u)(h:Q u s)(c:x≠"__name__":=by decide)(hd:(x==("__debug__":Str))=false:=by decide):wpAny (model X.prog X.w) X.A (eval (.Name x pos) X.env) Q E s:=by
 obtain⟨d,h1,h2⟩:=I.mod.blt;exact Calls.Name_function_global I.ok.kind a (Calls.loadGlobal_builtin (by rw[I.ok.glob];exact I.mod.glob.keeps I.bk) hm (by rw[I.ok.blt];exact h1.keeps I.bk) ((h2 x c).trans b) h) hd
def kF{x:Str}{v:V}{u:Value}{pos:Pos}(a:Gl X x)(hm:X.mg x=some u)(r:RelV v u)(hd:(x==("__debug__":Str))=false:=by decide):PE X (.Name x pos) (tC v):=
 fun _ _ _ H _ I h=>mm I a hm ⟨v,H,I,r,h⟩ hd
def kI{x:Str}{v:V}{u:Value}{pos:Pos}(a:Gl X x)(hm:X.mg x=none)(b:AX x=some u)(r:RelV v u)(c:x≠"__name__":=by decide)(hd:(x==("__debug__":Str))=false:=by decide):PE X (.Name x pos) (tC v):=
 fun _ _ _ H _ I h=>je I a hm b ⟨v,H,I,r,h⟩ c hd
variable{a b:Expr}{ta tb:TE}{pos:Pos}
def tB(t:TE):TT:=fun σ H Q=>t σ H fun x H1=>∃c,x=.bl c/\Q c H1
def fg{e:Expr}{t:TE}(h:PE X e t)(he:∀a,isTrue e X.env a=(do let v <-a;standAt e.pos;holding [v] (truthy v)):=by intro _;rfl):PT X e (tB t):=by
 intro aa s σ H Q I hw;refine isTrue_plain (aL (h aa s σ H _ I hw) fun v g ⟨x,H1,f,b,c⟩=>?_) (he _);obtain⟨d,rfl,q⟩:=c;cases b;exact wpAny_truthy_bool ⟨H1,f,q⟩
variable{tA lB:TT}{rest:List Expr}
def mu(t u:TT):TT:=fun σ H Q=>t σ H fun c H1=>if c=true then u σ H1 Q else Q false H1
def Ib(t u:TT):TT:=fun σ H Q=>t σ H fun c H1=>if c=true then Q true H1 else u σ H1 Q
def vu(t:TT):TT:=fun σ H Q=>t σ H fun c H1=>Q (!c) H1
def mv(b:PT X a tA):PW X (.BoolOp .And [a] pos) tA:=by
 intro d aa s σ H Q I h;refine isTrue_and (aL (b aa s σ H Q I h) fun c f e=>?_);cases c with
 |true=>exact isTrue_and_nil e
 |false=>exact e
def my(b:PT X a tA):PW X (.BoolOp .Or [a] pos) tA:=by
 intro d aa s σ H Q I h;refine isTrue_or (aL (b aa s σ H Q I h) fun c f e=>?_);cases c with
 |false=>exact isTrue_or_nil e
 |true=>exact e
def mC(i:PT X a tA)(hb:PW X (.BoolOp .And (b::rest) pos) lB):PW X (.BoolOp .And (a::b::rest) pos) (mu tA lB):=by
 intro f aa s σ H Q I h;refine isTrue_and (aL (i aa s σ H _ I h) fun c g ⟨H1,e,d⟩=>?_);cases c with
 |true=>exact hb f aa g σ H1 Q e d
 |false=>exact⟨H1,e,d⟩
def kK(i:PT X a tA)(hb:PW X (.BoolOp .Or (b::rest) pos) lB):PW X (.BoolOp .Or (a::b::rest) pos) (Ib tA lB):=by
 intro f aa s σ H Q I h;refine isTrue_or (aL (i aa s σ H _ I h) fun c g ⟨H1,e,d⟩=>?_);cases c with
 |true=>exact⟨H1,e,d⟩
 |false=>exact hb f aa g σ H1 Q e d
def eL(b:PT X a tA):PT X (.UnaryOp .Not a pos) (vu tA):=by
 intro aa s σ H Q I h;exact isTrue_not (b aa s σ H (fun c H1=>Q (!c) H1) I h)
def Ie(ta tb:TE):TE:=fun σ H Q=>ta σ H fun x H1=>∃c,x=.bl c/\if c=true then tb σ H1 Q else Q (.bl false) H1
def Ig(ta:TE):TE:=fun σ H Q=>ta σ H fun x H1=>∃c,x=.bl c/\Q (.bl (!c)) H1
def De{op}{t:TE}(h:PE X a t):PE X (.BoolOp op [a] pos) t:=fun aa s σ H Q I hw=>BoolOp_one (h aa s σ H Q I hw)
def Dg(i:PE X a ta)(hb:PE X (.BoolOp .And (b::rest) pos) tb):PE X (.BoolOp .And (a::b::rest) pos) (Ie ta tb):=by
 intro aa s σ H Q I h;refine BoolOp_and (aL (i aa s σ H _ I h) fun v f ⟨x,H1,e,g,d⟩=>?_);obtain⟨c,rfl,d⟩:=d;cases g;refine wpAny_truthy_bool ?_;cases c with
 |true=>exact hb aa f σ H1 Q e d
 |false=>exact⟨.bl false,H1,e,rfl,d⟩
def Ih(e:PE X a ta):PE X (.UnaryOp .Not a pos) (Ig ta):=by
 intro aa s σ H Q I h;refine UnaryOp_ (aL (e aa s σ H _ I h) fun v g ⟨x,H1,f,d,b⟩=>?_);obtain⟨c,rfl,b⟩:=b;cases d;exact not_of (wpAny_truthy_bool ⟨.bl (!c),H1,f,rfl,b⟩)
def Ii(t:TT)(ta tb:TE):TE:=fun σ H Q=>t σ H fun c H1=>if c=true then ta σ H1 Q else tb σ H1 Q
def vx{c:Expr}(hc:PT X c tA)(i:PE X a ta)(hb:PE X b tb):PE X (.IfExp c a b pos) (Ii tA ta tb):=by
 intro aa s σ H Q I h;refine wpAny_IfExp (aL (hc aa s σ H _ I h) fun d e ⟨H1,g,f⟩=>?_);cases d with
 |true=>exact i aa e σ H1 Q g f
 |false=>exact hb aa e σ H1 Q g f
end
def SqL(K:Ae)(H:Hp)(a:Addr)(xs:List V):Prop:=
 Rd H a (.lst xs) \/
  ∃(o:Obj)(b:Array Value)(n:Nat),K.lookup a=some o/\o.cls=.type "list"/\o.dict=none/\o.data=.seq b n/\b.size<=sizeLine/\Vals xs b.toList
def SqT(K:Ae)(H:Hp)(a:Addr)(xs:List V):Prop:=
 Rd H a (.tup xs) \/
  ∃(o:Obj)(b:Array Value)(n:Nat),K.lookup a=some o/\o.cls=.type "tuple"/\o.data=.seq b n/\b.size<=sizeLine/\Vals xs b.toList
def vy:Value->Option V
 |.none=>some .non
 |.bool b=>some (.bl b)
 |.int i _=>some (.int i)
 |.str x _=>some (.str x)
 |.bytes b _=>some (.byt b)
 |.float b _=>some (.flt b)
 |.ref a=>some (.ref a)
 |.type n=>some (.ty n)
 |_=>none
def RelV.abs{x:V}{u:Value}(r:RelV x u):vy u=some x:=by
 cases x with
 |non=>cases r;rfl
 |bl _=>cases r;rfl
 |int _=>obtain⟨t,rfl⟩:=r;rfl
 |str _=>obtain⟨t,rfl⟩:=r;rfl
 |byt _=>obtain⟨t,rfl⟩:=r;rfl
 |flt _=>obtain⟨t,rfl⟩:=r;rfl
 |ref _=>cases r;rfl
 |ty _=>cases r;rfl
def RelV.inj{x y:V}{u:Value}(r:RelV x u)(q:RelV y u):x=y:=An (r.abs.symm.trans q.abs)
def Vals.inj{xs ys:List V}{us:List Value}(h:Vals xs us)(g:Vals ys us):xs=ys:=by
 induction h generalizing ys with
 |nil=>cases g;rfl
 |cons r t ih=>cases g with|cons r' t'=>rw[r.inj r',ih t']
section
variable{X:Cx}{aa:Ψ}{σ:St}{H:Hp}{s:Shared}{a:Addr}{xs ys:List V}
def SqL.of{K:Ae}(h:H a=some (.lst xs)):SqL K H a xs:=.inl (.inl h)
def SqT.of{K:Ae}(h:H a=some (.tup xs)):SqT K H a xs:=.inl (.inl h)
def Inv.list(I:Inv X aa σ H s)(h:SqL X.K H a xs):∃b:List Value,Vals xs b/\PlainL s.heap a b.toArray/\xs.length<=sizeLine:=by
 rcases h with h|⟨o,b,n,hk,hc,hd,hs,hz,r⟩
 ·obtain⟨z,b,n,r,e⟩:=h.ok I.hok
  exact⟨b,r,⟨_,n,e,rfl,rfl,rfl⟩,z⟩
 ·refine⟨b.toList,r,⟨o,n,I.kIn a o hk,hc,hd,by simpa using hs⟩,?_⟩
  have e:=r.length;simp only[Aw] at e;omega
def Inv.tuple(I:Inv X aa σ H s)(h:SqT X.K H a xs):∃b:List Value,Vals xs b/\IsTup s.heap a b.toArray/\xs.length<=sizeLine:=by
 rcases h with h|⟨o,b,n,hk,hc,hs,hz,r⟩
 ·obtain⟨z,b,r,p⟩:=h.ok I.hok
  exact⟨b,r,p,z⟩
 ·refine⟨b.toList,r,⟨o,I.kIn a o hk,hc,n,by simpa using hs⟩,?_⟩
  have e:=r.length;simp only[Aw] at e;omega
def Inv.list_inj(I:Inv X aa σ H s)(h:SqL X.K H a xs)(h':SqL X.K H a ys):xs=ys:=by
 obtain⟨c,r,⟨o,n,e,_,_,d⟩,_⟩:=I.list h;obtain⟨its',f,⟨o',g,b,_,_,d'⟩,_⟩:=I.list h';rw[e] at b;cases b;rw[d] at d';injection d' with d1 _
 have:c=its':=by simpa using congrArg Array.toList d1
 subst this;exact r.inj f
def Inv.tuple_inj(I:Inv X aa σ H s)(h:SqT X.K H a xs)(h':SqT X.K H a ys):xs=ys:=by
 obtain⟨c,r,⟨o,e,_,n,d⟩,_⟩:=I.tuple h;obtain⟨its',f,⟨o',b,_,g,d'⟩,_⟩:=I.tuple h';rw[e] at b;cases b;rw[d] at d';injection d' with d1 _
 have:c=its':=by simpa using congrArg Array.toList d1
 subst this;exact r.inj f
end
abbrev Cx.wish(X:Cx)(E:Ω):Cx:={X with xe:=E}
abbrev Cx.nox(X:Cx):Cx:=X.wish fun _ _=>False
def Cx.Ok.wish{X:Cx}(ok:X.Ok)(E:Ω):(X.wish E).Ok:=
 ⟨ok.mod,ok.kind,ok.glob,ok.blt,ok.above,ok.inj,ok.has,ok.cab,ok.hd,ok.frames,ok.stk,ok.exf,ok.bs,ok.bsz,ok.noex,ok.exfs,ok.funs,ok.frf⟩
def Cx.Ok.unwish{X:Cx}{E:Ω}(ok:(X.wish E).Ok):X.Ok:=
 ⟨ok.mod,ok.kind,ok.glob,ok.blt,ok.above,ok.inj,ok.has,ok.cab,ok.hd,ok.frames,ok.stk,ok.exf,ok.bs,ok.bsz,ok.noex,ok.exfs,ok.funs,ok.frf⟩
section
variable{X:Cx}{aa:Ψ}{σ:St}{H:Hp}{s:Shared}{E:Ω}
def Inv.wish(I:Inv X aa σ H s)(E:Ω):Inv (X.wish E) aa σ H s:=⟨I.ok.wish E,I.os,I.bare,I.base,I.loc,I.cell,I.free,I.freeC,I.pin,I.hok,I.len⟩
def Inv.unwish(I:Inv (X.wish E) aa σ H s):Inv X aa σ H s:=⟨I.ok.unwish,I.os,I.bare,I.base,I.loc,I.cell,I.free,I.freeC,I.pin,I.hok,I.len⟩
def SP.unwish{D:Ends}{f:Flow}{s':Shared}(h:SP (X.wish E) aa D f s'):SP X aa D f s':=by
 cases f with
 |next=>obtain⟨a,H',I,q⟩:=h;exact⟨a,H',I.unwish,q⟩
 |brk=>obtain⟨a,H',I,q⟩:=h;exact⟨a,H',I.unwish,q⟩
 |cont=>obtain⟨a,H',I,q⟩:=h;exact⟨a,H',I.unwish,q⟩
 |ret u=>obtain⟨v,a,H',I,r,q⟩:=h;exact⟨v,a,H',I.unwish,r,q⟩
def PSs.nox{st:List Stmt}{t:TS}(h:PSs X.nox st t):PSs X st t:=fun aa s σ H D I hw=>
 wpAny_mono (h aa s σ H D (I.wish _) hw) (fun _ _ q=>q.unwish) fun _ _ z=>False.elim z
end
section
variable{X:Cx}{st:Stmt}{rest:List Stmt}{t u:TS}{e:Expr}{te:TE}{pos:Pos}
def Ij:TS:=fun D σ H=>D.nx σ H
def mD(t u:TS):TS:=fun D σ H=>t {D with nx:=u D} σ H
def zv:PSs X [] Ij:=fun _ _ σ H _ I h=>wpAny_execs_nil ⟨σ,H,I,h⟩
def za(h1:PS X st t)(h2:PSs X rest u):PSs X (st::rest) (mD t u):=by
 intro aa s σ H D I h;refine wpAny_execs_cons (aL (h1 aa s σ H {D with nx:=u D} I h) fun f a q=>?_);cases f with
 |next=>
  obtain⟨b,H',c,q⟩:=q;exact h2 aa a b H' D c q
 |ret v=>exact q
 |brk=>exact q
 |cont=>exact q
def zd(h1:PS X st t):PSs X [st] t:=by
 intro aa s σ H D I h;refine wpAny_execs_cons (aL (h1 aa s σ H D I h) fun f a q=>?_);cases f with
 |next=>exact wpAny_execs_nil q
 |ret v=>exact q
 |brk=>exact q
 |cont=>exact q
def Inv.quiet{aa:Ψ}{σ:St}{H:Hp}{s:Shared}(I:Inv X aa σ H s):interactive X.env=false:=by simp[interactive,I.ok.kind]
def Il(te:TE):TS:=fun D σ H=>te σ H fun _ H1=>D.nx σ H1
def fE(he:PE X e te)(hs:swapsWith e none pos.line X.env=pure false:=by rfl):PS X (.Expr e pos) (Il te):=by
 intro aa s σ H D I h;exact wpAny_Expr_any (aL (he aa s σ H _ I h) fun v c ⟨x,H1,b,d,a⟩=>⟨σ,H1,b,a⟩) I.quiet hs
def mI(te:TE):TS:=fun D σ H=>te σ H D.rt
def zr(he:PE X e te):PS X (.Return (some e) pos) (mI te):=by
 intro aa s σ H D I h;exact wpAny_Return_some (aL (he aa s σ H _ I h) fun v d ⟨x,H1,c,a,b⟩=>⟨x,σ,H1,c,a,b⟩)
def vL(c:TT)(t u:TS):TS:=fun D σ H=>c σ H fun b H1=>if b=true then t D σ H1 else u D σ H1
def zN{c:Expr}{a b:List Stmt}{tc:TT}(hc:PT X c tc)(i:PSs X a t)(hb:PSs X b u):PS X (.If c a b pos) (vL tc t u):=by
 intro aa s σ H D I h;refine wpAny_If (aL (hc aa s σ H _ I h) fun d e ⟨H1,g,f⟩=>?_);cases d with
 |true=>exact i aa e σ H1 D g f
 |false=>exact hb aa e σ H1 D g f
def Im:TS:=fun _ _ _=>False
def Dh{a:List Stmt}:PSs X a Im:=fun _ _ _ _ _ _ h=>h.elim
end
abbrev TG:=V->St->Hp->(St->Hp->Prop)->Prop
abbrev jH:=List V->St->Hp->(St->Hp->Prop)->Prop
def PG(X:Cx)(b:Expr)(t:TG):Prop:=
 ∀(aa:Ψ)(s:Shared)(σ:St)(H:Hp)(v:V)(u:Value)(Q:St->Hp->Prop),Inv X aa σ H s->RelV v u->t v σ H Q->
  wpAny (model X.prog X.w) X.A (assign b X.env u) (fun _ s'=>∃a H',Inv X aa a H' s'/\Q a H') X.xe s
def qg(X:Cx)(ts:List Expr)(t:jH):Prop:=
 ∀(aa:Ψ)(s:Shared)(σ:St)(H:Hp)(vs:List V)(us:List Value)(Q:St->Hp->Prop),Inv X aa σ H s->Vals vs us->t vs σ H Q->
  wpAny (model X.prog X.w) X.A (assignInOrder ((assignEach ts X.env).map (·.2)) us) (fun _ s'=>∃a H',Inv X aa a H' s'/\Q a H') X.xe s
abbrev jJ:=V->V->V->Hp->(Hp->Prop)->Prop
def mN(X:Cx)(t:jJ):Prop:=
 ∀(aa:Ψ)(s:Shared)(σ:St)(H:Hp)(o i v:V)(a iv u:Value)(Q:Hp->Prop),Inv X aa σ H s->RelV o a->RelV i iv->RelV v u->t o i v H Q->
  wpAny (model X.prog X.w) X.A (setItem a iv u) (fun _ s'=>∃H',Inv X aa σ H' s'/\Q H') X.xe s
section
variable{X:Cx}{pos:Pos}
def cA(i:Nat):TG:=fun v σ H Q=>Q (σ.set i (some v)) H
def zk{i:Nat}{x:Str}(a:X.N.Nodup)(hi:X.N[i]?=some x)(hx:Loc X.env.scope x)(hf:X.fn x=true\/X.env.scope.names.lookup x=some .local:=by first|exact .inl rfl|exact .inr rfl|assumption):PG X (.Name x pos) (cA i):=by
 intro aa s σ H v u Q I r h;exact wpAny_assign_Name (qf I a hi hx r (fun s' b=>⟨_,H,b,h⟩) hf)
def jK:jH:=fun vs σ H Q=>vs=[]/\Q σ H
def mP(t:TG)(u:jH):jH:=fun vs σ H Q=>∃v r,vs=v::r/\t v σ H fun a H'=>u r a H' Q
def mQ:qg X [] jK:=by
 intro aa s σ H vs us Q I r h;obtain⟨e,h⟩:=h;subst e;cases r;exact assignInOrder_nil ⟨σ,H,I,h⟩
def fX{e:Expr}{es:List Expr}{t:TG}{u:jH}(h1:PG X e t)(h2:qg X es u)(hs:(assignEach (e::es) X.env).map (·.2)=assign e X.env::(assignEach es X.env).map (·.2):=by rfl):qg X (e::es) (mP t u):=by
 intro aa s σ H vs us Q I r h;obtain⟨v,f,e1,h⟩:=h;subst e1;cases r with
 |cons r rr=>
  rw[hs];refine assignInOrder_cons (aL (h1 aa s σ H _ _ _ I r h) fun _ a ⟨b,H1,d,c⟩=>?_);exact h2 aa a b H1 _ _ Q d rr c
def jM(K:Ae)(n:Nat)(t:jH):TG:=fun v σ H Q=>∃a xs,v=.ref a/\SqT K H a xs/\xs.length=n/\t xs σ H Q
def mS{es:List Expr}{k:Nat}{t:jH}{n:Nat}(hc:X.calm=true)(h:qg X es t)(i:(assignEach es X.env).length=n:=by rfl)(c:(assignEach es X.env).findIdx? (·.1)=none:=by rfl):PG X (.Tuple es k pos) (jM X.K n t):=by
 intro aa s σ H v u Q I r hw;obtain⟨a,xs,e1,hq,f,hw⟩:=hw;subst e1;cases r;obtain⟨l,d,g,hz⟩:=I.tuple hq;refine assign_Tuple_tuple (I.ok.hd hc) g (by simp[i,<-f,d.length]) c fun h' hx=>?_;have j:Inv X aa σ H {s with heap:=h'}:=I.kept (t':=s.toks) fun b o e=>hx b o (Ao (Ak e)) e;exact h aa _ σ H xs _ Q j (by simpa using d) hw
def v9(to a:TE)(t:jJ):TG:=fun v σ H Q=>to σ H fun o H1=>a σ H1 fun i H2=>t o i v H2 fun b=>Q σ b
def Di{o i:Expr}{to b:TE}{t:jJ}(p:PE X o to)(hi:PE X i b)(hs:mN X t)(q:∀v,assign (.Subscript o i pos) X.env v=(do
   let a <-holding [v] (eval o X.env)
   let iv <-holding [v,a] (eval i X.env)
   standAt pos
   holding [v,a,iv] (setItem a iv v)
   release [v,a,iv] []):=by intro _;rfl):PG X (.Subscript o i pos) (v9 to b t):=by
 intro aa s σ H v u Q I r h;rw[q];refine Aa (AA (aL (p aa s σ H _ I h) fun a c ⟨x,H1,w,d,e⟩=>?_));refine Aa (AA (aL (hi aa c σ H1 _ w e) fun iv f ⟨y,H2,z,g,j⟩=>?_));refine Aa (wpAny_standAt (Aa (AA (aL (hs aa f σ H2 x y v a iv u _ z d g r j) fun _ D ⟨A,C,l⟩=>?_))));exact wpAny_release ⟨σ,A,C,l⟩
def ip(te:TE)(g:TG):TS:=fun D σ H=>te σ H fun x H1=>g x σ H1 D.nx
def qh{tg e:Expr}{te:TE}{g:TG}(he:PE X e te)(d:PG X tg g)(hs:swapsWithSole [tg] e pos.line X.env=pure false:=by rfl)(hw:swappedStores [tg] e X.env=pure none:=by rfl)(h1:(assignEach [tg] X.env).map (·.2)=[assign tg X.env]:=by rfl):PS X (.Assign [tg] e pos) (ip te g):=by
 intro aa s σ H D I h;refine wpAny_Assign_stores (aL (he aa s σ H _ I h) fun v a ⟨x,H1,f,b,c⟩=>?_) hs hw;rw[h1];exact aL (d aa a σ H1 x v _ f b c) fun _ i q=>q
def zp{i:Nat}{x:Str}{e:Expr}{te:TE}{aY:Pos}(c:X.N.Nodup)(hi:X.N[i]?=some x)(hx:Loc X.env.scope x)(he:PE X e te)(hs:swapsWith e (some (.Name x aY)) pos.line X.env=pure false:=by rfl)(hf:X.fn x=true\/X.env.scope.names.lookup x=some .local:=by first|exact .inl rfl|exact .inr rfl|assumption):PS X (.Assign [.Name x aY] e pos) (ip te (cA i)):=by
 intro aa s σ H D I h;refine wpAny_Assign_Name (aL (he aa s σ H _ I h) fun v g ⟨y,H1,d,a,b⟩=>?_) hs;exact qf d c hi hx a (fun j f=>⟨_,H1,f,b⟩) hf
end
structure It where
 go:Nat->Hp->Prop
 yld:Nat->Hp->V->Hp->Prop
 stop:Nat->Hp->Prop
def a_(X:Cx)(aa:Ψ)(H:Hp)(b:Addr):Prop:=
 H b=none/\b≠X.env.locals/\b∉X.fs/\(b∈X.ex\/X.s₀⁻¹<=b)/\(∀x c,X.env.cells.lookup x=some c->c≠b)/\∀p∈X.pn++aa,p.1≠b
def Inv.fpOk{X:Cx}{aa:Ψ}{σ:St}{H H':Hp}{s:Shared}{b:Addr}(I:Inv X aa σ H s)(hb:s⁻¹<=b)(a:H' b=none):a_ X aa H' b:=by
 refine⟨a,Nat.ne_of_gt (AB I.lt hb),I.nofs hb,.inr (AO I.sz hb),fun x c e z=>?_,fun p hp z=>?_⟩
 ·obtain⟨v,q⟩:=I.cell x c e
  exact absurd (AB q.lt (by rw[z];exact hb)) (Nat.lt_irrefl _)
 ·exact absurd (AB (Ak (I.pin p hp).1) (by rw[z];exact hb)) (Nat.lt_irrefl _)
structure Turn(P:Program)(w:World)(K:Ae)(tg:Expr)(J:It)(fp:List Addr)(it:Addr)(tn:Nat->Heap->Prop):Prop where
 mem:it∈fp
 obj:∀i h,tn i h->∀b∈fp,∃o,h.get? b=some o/\∀v,o.data≠.cell v
 keep:∀i h h',tn i h->(∀b∈fp,∀o,h.get? b=some o->h'.get? b=some o)->tn i h'
 item:∀(X:Cx),X.prog=P->X.w=w->X.K=K->X.calm=true->∀(i:Nat)(aa:Ψ)(s:Shared)(σ:St)(H:Hp)(E:Ω),Inv X aa σ H s->(∀b∈fp,a_ X aa H b)->tn i s.heap->J.go i H->
  wpAny (model P w) X.A (pyNext (.ref it)) (fun r s1=>∃u,r=some u/\
   wpAny (model P w) X.A (letOwnedTupleGo tg (.ref it) u) (fun _ s2=>∃x H',Inv X aa σ H' s2/\RelV x u/\J.yld i H x H'/\tn (i+1) s2.heap/\∀b∈fp,H' b=none) E s1) E s
 done:∀(X:Cx),X.prog=P->X.w=w->X.K=K->X.calm=true->∀(i:Nat)(aa:Ψ)(s:Shared)(σ:St)(H:Hp)(E:Ω),Inv X aa σ H s->(∀b∈fp,a_ X aa H b)->tn i s.heap->J.stop i H->
  wpAny (model P w) X.A (pyNext (.ref it)) (fun r s1=>r=none/\Inv X aa σ H s1) E s
 self:∀(A:Around)(i:Nat)(s:Shared)(Q:Ω)(E:Ω),tn i s.heap->Q (.ref it) s->wpAny (model P w) A (pyIter (.ref it)) Q E s
abbrev TI:=St->Hp->(It->Hp->Prop)->Prop
def qm(X:Cx)(aa:Ψ)(σ:St)(tg:Expr)(R:It->Hp->Prop)(d:Value)(a:Shared):Prop:=
 ∃(it:Addr)(fp:List Addr)(c:Nat->Heap->Prop)(J:It)(H':Hp),d=.ref it/\Inv X aa σ H' a/\Turn X.prog X.w X.K tg J fp it c/\c 0 a.heap/\(∀b∈fp,a_ X aa H' b)/\R J H'
def PI(X:Cx)(tg iter:Expr)(wi:TI):Prop:=
 ∀(aa:Ψ)(s:Shared)(σ:St)(H:Hp)(R:It->Hp->Prop),Inv X aa σ H s->wi σ H R->
  wpAny (model X.prog X.w) X.A (eval iter X.env) (fun v a=>wpAny (model X.prog X.w) X.A (pyIter v) (qm X aa σ tg R) X.xe a) X.xe s
def jN{M:Model}{A:Around}{E:Ω}{s:Shared}{tg:Expr}{it:Addr}{u:Value}{o:Obj}{n:String}{vs:Array Value}{Q:Unit->Shared->Prop}(b:s.heap.get? it=some o)(hc:o.cls=.type n)(hd:o.data=.fields vs)(c:["enumerate","zip","dict_itemiterator","dict_reverseitemiterator","odict_iterator","itertools.zip_longest","itertools.pairwise"].contains n=false)(a:Q () s):wpAny M A (letOwnedTupleGo tg (.ref it) u) Q E s:=by
 unfold letOwnedTupleGo;cases tg<;>first
  |exact Ac a
  |(cases u<;>first
    |exact Ac a
    |(refine Aa (wpAny_load b ?_);rw[hc,hd];show wpAny M A (if(["enumerate","zip","dict_itemiterator","dict_reverseitemiterator","odict_iterator","itertools.zip_longest","itertools.pairwise"].contains n&&vs[0]?==some (rawInt _))=true then _ else _) Q E s;rw[if_neg (by intro h;rw[c,Bool.false_and] at h;cases h)];exact Ac a))
def dv(K:Ae)(a:Addr):It:=
 ⟨fun i H=>∃xs x,SqL K H a xs/\xs[i]?=some x,fun i H x H'=>H'=H/\∀xs,SqL K H a xs->xs[i]?=some x,fun i H=>∃xs,SqL K H a xs/\xs.length<=i⟩
def jf(K:Ae)(a:Addr):It:=
 ⟨fun i H=>∃xs x,SqT K H a xs/\xs[i]?=some x,fun i H x H'=>H'=H/\∀xs,SqT K H a xs->xs[i]?=some x,fun i H=>∃xs,SqT K H a xs/\xs.length<=i⟩
def jg(lo:Int)(n:Nat):It:=⟨fun i _=>i<n,fun i H x H'=>H'=H/\x=.int (lo+i),fun i _=>n<=i⟩
def Io{P:Program}{w:World}{K:Ae}{tg:Expr}(a it:Addr):Turn P w K tg (dv K a) [it] it (fun i h=>h.IsListIter it a i) where
 mem:=by simp
 obj:=fun i h st b hb=>by
  have e:b=it:=by simpa using hb
  subst e;obtain⟨o,e,c,d⟩:=st;exact⟨o,e,fun v z=>by rw[d] at z;cases z⟩
 keep:=fun i h h' st k=>st.at fun o e=>k it (by simp) o e
 item:=by
  intro X f hw g hc i aa s σ H E I hf st j;subst f hw g;obtain⟨xs,x,hq,hx⟩:=j;obtain⟨A,l,p,hz⟩:=I.list hq;obtain⟨u,hu,C⟩:=l.get hx;obtain⟨f0,f1,f2,f3,f4,f5⟩:=hf it (by simp);refine wpAny_pyNext_list_item st p.isList (x:=u) (by simpa using hu) fun h' q r=>?_;have D:Inv X aa σ H {s with heap:=h'}:=I.turned (t':=s.toks) (fun b o hb e=>(r.2 b hb).trans e) f0 f1 f3 f4 f5;obtain⟨o,e,c,d⟩:=id q;exact⟨u,rfl,jN (s:={s with heap:=h'}) e c d ξ ⟨x,H,D,C,⟨rfl,fun ys hy=>by rw[I.list_inj hy hq];exact hx⟩,q,fun b hb=>(hf b hb).1⟩⟩
 done:=by
  intro X f hw g hc i aa s σ H E I hf st j;subst f hw g;obtain⟨xs,hq,hx⟩:=j;obtain⟨A,l,p,hz⟩:=I.list hq;obtain⟨f0,f1,f2,f3,f4,f5⟩:=hf it (by simp);have F:=l.length;exact wpAny_pyNext_list_end (I.ok.hd hc) st p.isList (by simp;omega) fun h' y=>⟨rfl,I.turned (t':=s.toks) (fun b o hb e=>y b o hb e) f0 f1 f3 f4 f5⟩
 self:=fun _ _ _ _ _ st h=>wpAny_pyIter_listiter st h
def Ip{P:Program}{w:World}{K:Ae}{tg:Expr}(a it:Addr):Turn P w K tg (jf K a) [it] it (fun i h=>h.IsTupleIter it a i) where
 mem:=by simp
 obj:=fun i h st b hb=>by
  have e:b=it:=by simpa using hb
  subst e;obtain⟨o,e,c,d⟩:=st;exact⟨o,e,fun v z=>by rw[d] at z;cases z⟩
 keep:=fun i h h' st k=>st.at fun o e=>k it (by simp) o e
 item:=by
  intro X f hw g hc i aa s σ H E I hf st j;subst f hw g;obtain⟨xs,x,hq,hx⟩:=j;obtain⟨l,q,p,hz⟩:=I.tuple hq;obtain⟨u,hu,C⟩:=q.get hx;obtain⟨f0,f1,f2,f3,f4,f5⟩:=hf it (by simp);refine wpAny_pyNext_tuple_item st (show s.heap.IsTuple a l.toArray from p) (x:=u) (by simpa using hu) fun h' r y=>?_;have D:Inv X aa σ H {s with heap:=h'}:=I.turned (t':=s.toks) (fun b o hb e=>(y.2 b hb).trans e) f0 f1 f3 f4 f5;obtain⟨o,e,c,d⟩:=id r;exact⟨u,rfl,jN (s:={s with heap:=h'}) e c d ξ ⟨x,H,D,C,⟨rfl,fun ys hy=>by rw[I.tuple_inj hy hq];exact hx⟩,r,fun b hb=>(hf b hb).1⟩⟩
 done:=by
  intro X f hw g hc i aa s σ H E I hf st j;subst f hw g;obtain⟨xs,hq,hx⟩:=j;obtain⟨l,q,p,hz⟩:=I.tuple hq;obtain⟨f0,f1,f2,f3,f4,f5⟩:=hf it (by simp);have F:=q.length;exact wpAny_pyNext_tuple_end (I.ok.hd hc) st (show s.heap.IsTuple a l.toArray from p) (by simp;omega) fun h' A=>⟨rfl,I.turned (t':=s.toks) (fun b o hb e=>A b o hb e) f0 f1 f3 f4 f5⟩
 self:=fun _ _ _ _ _ st h=>wpAny_pyIter_tupleiter st h
def Iq{P:Program}{w:World}{K:Ae}{tg:Expr}(it:Addr)(lo:Int)(n:Nat):Turn P w K tg (jg lo n) [it] it (fun i h=>IsRangeIter h it (lo+(i:Nat)*1) ((n:Int)-(i:Nat)) 1) where
 mem:=by simp
 obj:=fun i h st b hb=>by
  have e:b=it:=by simpa using hb
  subst e;exact⟨_,st,fun v z=>by
   have p:Data.fields _=Data.cell v:=z;cases p⟩
 keep:=fun i h h' st k=>k it (by simp) _ st
 item:=by
  intro X a hw c hc i aa s σ H E I hf st d;subst a hw c;obtain⟨f0,f1,f2,f3,f4,f5⟩:=hf it (by simp);have W:=Walks.range (prog:=X.prog) (w:=X.w) (I.ok.hd hc) it lo 1 n;refine W.item i s _ _ d st fun v h' tk g f j=>?_;obtain⟨t,rfl⟩:=g;have q:Inv X aa σ H {s with heap:=h',toks:=tk}:=I.turned (fun b o hb e=>j b o (by simpa using hb) e) f0 f1 f3 f4 f5;refine⟨_,rfl,jN (s:={s with heap:=h',toks:=tk}) (n:="range_iterator") f rfl rfl ξ ⟨.int (lo+i),H,q,⟨t,?_⟩,⟨rfl,rfl⟩,f,fun b hb=>(hf b hb).1⟩⟩;rw[Int.mul_one]
 done:=by
  intro X a hw c hc i aa s σ H E I hf st d;subst a hw c;obtain⟨f0,f1,f2,f3,f4,f5⟩:=hf it (by simp);exact wpAny_pyNext_range_end (I.ok.hd hc) st (by have:n<=i:=d;omega) fun h' l=>⟨rfl,I.turned (t':=s.toks) (fun b o hb e=>l b o hb e) f0 f1 f3 f4 f5⟩
 self:=fun _ _ _ _ _ st h=>wpAny_pyIter_rangeiter st h
section
variable{X:Cx}{tg:Expr}
def Ir(K:Ae)(tl:TE):TI:=fun σ H R=>tl σ H fun x H1=>∃a,x=.ref a/\(∃xs,SqL K H1 a xs)/\R (dv K a) H1
def v'(K:Ae)(tl:TE):TI:=fun σ H R=>tl σ H fun x H1=>∃a,x=.ref a/\(∃xs,SqT K H1 a xs)/\R (jf K a) H1
def zA{l:Expr}{tl:TE}(g:PE X l tl):PI X tg l (Ir X.K tl):=by
 intro aa s σ H R I h;refine aL (g aa s σ H _ I h) fun v c ⟨x,H1,I1,d,f⟩=>?_;obtain⟨a,e,⟨xs,hq⟩,q⟩:=f;subst e;cases d;obtain⟨i,j,p,hz⟩:=I1.list hq;refine wpAny_pyIter_list p.isList ?_;refine⟨c⁻¹,[c⁻¹],_,_,H1,rfl,I1.kept (t':=c.toks) fun b o e=>Ad _ e,Io a _,⟨_,Al _ rfl,rfl,rfl⟩,fun b hb=>?_,q⟩;have e:b=c⁻¹:=by simpa using hb
 subst e;exact I1.fpOk (Ag _) (I1.hok.fresh (Ag _))
def iq{l:Expr}{tl:TE}(i:PE X l tl):PI X tg l (v' X.K tl):=by
 intro aa s σ H R I h;refine aL (i aa s σ H _ I h) fun v c ⟨x,H1,I1,d,f⟩=>?_;obtain⟨a,e,⟨xs,hq⟩,q⟩:=f;subst e;cases d;obtain⟨g,j,p,hz⟩:=I1.tuple hq;refine wpAny_pyIter_tuple (show c.heap.IsTuple a g.toArray from p) ?_;refine⟨c⁻¹,[c⁻¹],_,_,H1,rfl,I1.kept (t':=c.toks) fun b o e=>Ad _ e,Ip a _,⟨_,Al _ rfl,rfl,rfl⟩,fun b hb=>?_,q⟩;have e:b=c⁻¹:=by simpa using hb
 subst e;exact I1.fpOk (Ag _) (I1.hok.fresh (Ag _))
def Is{aa:Ψ}{σ:St}{H:Hp}{s:Shared}{R:It->Hp->Prop}{E:Ω}{lo hi:Int}{t u v:Tok}{tk:Nat}(I:Inv X aa σ H s)(h1:-(2 ^ 62)<=lo)(h2:lo<2 ^ 62)(a:-(2 ^ 62)<=hi)(c:hi<2 ^ 62)(q:R (jg lo (hi-lo).toNat) H):wpAny (model X.prog X.w) X.A (pyIter (.ref s⁻¹)) (qm X aa σ tg R) E {s with heap:=s.heap.push {cls:=.type "range",data:=.fields #[.int lo t,.int hi u,.int 1 v]},toks:=tk}:=by
 refine wpAny_pyIter_range (IsRange.new ..) (small_one h1 h2 a c) ?_;have I1:Inv X aa σ H {s with heap:=s.heap.push {cls:=.type "range",data:=.fields #[.int lo t,.int hi u,.int 1 v]},toks:=tk}:=I.kept fun b o e=>Ad _ e;refine⟨(s.heap.push {cls:=.type "range",data:=.fields #[.int lo t,.int hi u,.int 1 v]}).objs.size,[(s.heap.push {cls:=.type "range",data:=.fields #[.int lo t,.int hi u,.int 1 v]}).objs.size],_,_,H,rfl,
  I1.kept (t':=tk) fun b o e=>Ad _ e,Iq _ lo (hi-lo).toNat,?_,fun b hb=>?_,q⟩
 ·have e1:lo+((0:Nat):Int)*1=lo:=by simp
  have e2:(((hi-lo).toNat:Nat):Int)-((0:Nat):Int)=Builtin.Range.rangeSize lo hi 1:=by rw[rangeSize_one];split<;>omega
  show IsRangeIter _ _ (lo+((0:Nat):Int)*1) ((((hi-lo).toNat:Nat):Int)-((0:Nat):Int)) 1;rw[e1,e2];exact Al _ rfl
 ·have e:b=(s.heap.push {cls:=.type "range",data:=.fields #[.int lo t,.int hi u,.int 1 v]}).objs.size:=by simpa using hb
  subst e;exact I1.fpOk (Ag _) (I1.hok.fresh (Ag _))
def Iu(ta:TA):TI:=fun σ H R=>ta σ H fun vs H1=>∃j:Int,vs=[.int j]/\-(2 ^ 62)<=j/\j<2 ^ 62/\R (jg 0 j.toNat) H1
def kL{a:Expr}{ta:TA}{p pos:Pos}(f:Gl X "range")(hm:X.mg "range"=none)(g:PA X [a] ta)(hs:starEach [a] X.env=[(false,eval a X.env)]:=by rfl):PI X tg (.Call (.Name "range" p) [a] [] pos) (Iu ta):=by
 intro aa s σ H R I h;refine Call_ (je I f hm boot_range (PyProof.Rows.callWith_type1 (aL (g pos aa s σ H _ I h) fun us l ⟨vs,H1,i,c,b⟩=>?_) hs rfl));obtain⟨j,e,b,d,q⟩:=b;subst e;cases c with
 |cons r rr=>
  cases rr;obtain⟨t,rfl⟩:=r;exact call_range_1 (Is i ω ω b d (by simpa using q))
def wf(wi:TI)(g:TG)(tb:TS):TS:=fun D σ H=>wi σ H fun J H1=>∃W:Nat->Nat->St->Hp->Prop,(∃m,W 0 m σ H1)/\∀i m σ H,W i m σ H->
 (J.stop i H/\D.nx σ H)\/(J.go i H/\∃N:St->Hp->Prop,(∀a H',N a H'->∃b,b<m/\W (i+1) b a H')/\∀x H',J.yld i H x H'->g x σ H' fun c H2=>tb {D with nx:=N,ct:=N,bk:=D.nx} c H2)
def mV(fp:List Addr)(h:Heap):Ψ:=fp.filterMap fun b=>(h.get? b).map fun o=>(b,o)
def qo{fp:List Addr}{h:Heap}{b:Addr}{o:Obj}(hb:b∈fp)(e:h.get? b=some o):(b,o)∈mV fp h:=List.mem_filterMap.mpr ⟨b,hb,by rw[e];rfl⟩
def Iv{fp:List Addr}{h:Heap}{p:Addr×Obj}(hp:p∈mV fp h):p.1∈fp/\h.get? p.1=some p.2:=by
 obtain⟨b,hb,e⟩:=List.mem_filterMap.mp hp;cases q:h.get? b with
 |none=>rw[q] at e;cases e
 |some o=>
  rw[q] at e;have a:(b,o)=p:=An e;subst a;exact⟨hb,q⟩
def Inv.pinned{aa:Ψ}{σ:St}{H:Hp}{s:Shared}{fp:List Addr}(I:Inv X aa σ H s)(hf:∀b∈fp,a_ X aa H b)(c:∀b∈fp,∃o,s.heap.get? b=some o/\∀v,o.data≠.cell v):Inv X (aa++mV fp s.heap) σ H s:=
 I.pins_of fun p hp=>(List.mem_append.mp hp).elim (fun z=>I.pin p (List.mem_append_right _ z)) fun z=>by
  obtain⟨hb,e⟩:=Iv z;obtain⟨f0,f1,f2,_⟩:=hf p.1 hb;obtain⟨o,a,d⟩:=c p.1 hb;rw[e] at a;cases a;exact⟨e,f0,f1,f2,d⟩
def Inv.unpinned{aa a:Ψ}{σ:St}{H:Hp}{s:Shared}(I:Inv X (aa++a) σ H s):Inv X aa σ H s:=I.pins_of fun p hp=>I.pin p (List.mem_append_right _ (List.mem_append_left _ hp))
def zZ{iter:Expr}{body:List Stmt}{wi:TI}{g:TG}{tb:TS}{pos:Pos}(hp:PassesOwn (model X.prog X.w) X.A X.env X.xe)(hc:X.calm=true)(hi:PI X tg iter wi)(hg:PG X tg g)(hb:PSs X body tb)(hs:∀x,foldedSetIterable iter X.env x=pure x:=by intro _;rfl):PS X (.For tg iter body [] pos) (wf wi g tb):=by
 intro aa s σ H D I h;refine wpAny_For (aL (hi aa s σ H _ I h) fun v s1 h1=>aL h1 fun nJ s2 h2=>?_) hs;obtain⟨it,fp,L,J,H2,e,I2,T,fe,f2,W,⟨m0,w0⟩,turn⟩:=h2;subst e;have c:∀{H':Hp},(∀b∈fp,H' b=none)->∀b∈fp,a_ X aa H' b:=fun U b hb=>⟨U b hb,(f2 b hb).2⟩;refine codeAny_forLoop_any (fun n s'=>∃i y H',Inv X aa y H' s'/\L i s'.heap/\(∀b∈fp,H' b=none)/\W i n y H') ?_ m0 ⟨0,σ,H2,I2,fe,fun b hb=>(f2 b hb).1,w0⟩;rintro n M ⟨i,z,C,S,O,P,w3⟩;rcases turn i n z C w3 with ⟨stop,qn⟩|⟨go,N,hN,step⟩
 ·refine wpAny_passesOwn hp (aL (T.done X rfl rfl rfl hc i aa M z C X.xe S (c P) O stop) fun r Y ⟨hr,I4⟩=>?_)
  subst hr;exact wpAny_execs_nil ⟨z,C,I4,qn⟩
 ·refine wpAny_passesOwn hp (aL (T.item X rfl rfl rfl hc i aa M z C X.xe S (c P) O go) fun r Y ⟨u,hr,Z⟩=>?_)
  subst hr;refine wpAny_passesOwn hp (aL Z fun _ G ⟨x,Q,I5,r5,y5,p,E⟩=>?_);have pc:=I5.pinned (c E) (T.obj _ _ p);refine wpAny_passesOwn hp (aL (hg _ G z Q x u _ pc r5 (step x Q y5)) fun _ s6 ⟨jP,H6,I6,q6⟩=>?_);refine wpAny_passesOwn hp (aL (hb _ s6 jP H6 _ I6 q6) fun f F l=>?_);have again:∀{a:St}{j:Hp},Inv X (aa++mV fp G.heap) a j F->N a j->∃m,m<n/\∃i y H',Inv X aa y H' F/\L i F.heap/\(∀b∈fp,H' b=none)/\W i m y H':=fun{a j} I7 q=>by
   obtain⟨m',hm,w7⟩:=hN a j q;refine⟨m',hm,i+1,a,j,I7.unpinned,T.keep _ _ _ p fun b hb o e=>(I7.pin (b,o) (List.mem_append_right _ (List.mem_append_right _ (qo hb e)))).1,fun b hb=>?_,w7⟩;obtain⟨o,e,d⟩:=T.obj _ _ p b hb;exact(I7.pin (b,o) (List.mem_append_right _ (List.mem_append_right _ (qo hb e)))).2.1
  cases f with
  |next=>obtain⟨a,j,I7,q⟩:=l;exact again I7 q
  |cont=>obtain⟨a,j,I7,q⟩:=l;exact again I7 q
  |brk=>obtain⟨a,j,I7,l⟩:=l;exact⟨a,j,I7.unpinned,l⟩
  |ret v=>obtain⟨x7,a,j,I7,r7,l⟩:=l;exact⟨x7,a,j,I7.unpinned,r7,l⟩
end
def fG{K:Ae}{a:Addr}{xs:List V}{g:TG}{tb:TS}{D:Ends}{σ:St}{H:Hp}(b:Nat->St->Hp->Prop)(l:b 0 σ H)(o:∀i σ H,i<=xs.length->b i σ H->SqL K H a xs)(hs:∀i x σ H,xs[i]?=some x->b i σ H->g x σ H fun d H2=>tb {D with nx:=b (i+1),ct:=b (i+1),bk:=D.nx} d H2)(hd:∀σ H,b xs.length σ H->D.nx σ H):∃W:Nat->Nat->St->Hp->Prop,(∃m,W 0 m σ H)/\∀i m σ H,W i m σ H->
   ((dv K a).stop i H/\D.nx σ H)\/((dv K a).go i H/\∃N:St->Hp->Prop,(∀f H',N f H'->∃h,h<m/\W (i+1) h f H')/\∀x H',(dv K a).yld i H x H'->g x σ H' fun d H2=>tb {D with nx:=N,ct:=N,bk:=D.nx} d H2):=by
 refine⟨fun i m σ H=>m=xs.length-i/\i<=xs.length/\b i σ H,⟨xs.length,by simp,AK _,l⟩,?_⟩;rintro i m σ H ⟨rfl,hi,p⟩;have q:=o i σ H hi p
 by_cases c:i<xs.length
 ·refine .inr ⟨⟨xs,xs[i],q,by simp[c]⟩,b (i+1),fun f H' j=>⟨xs.length-(i+1),ω,rfl,c,j⟩,fun x H' y=>?_⟩
  obtain⟨e,y⟩:=y;subst e;exact hs i x σ _ (y xs q) p
 ·have e:i=xs.length:=ω
  subst e;exact .inl ⟨⟨xs,q,Ag _⟩,hd σ H p⟩
def Dj{K:Ae}{a:Addr}{xs:List V}{g:TG}{tb:TS}{D:Ends}{σ:St}{H:Hp}(b:Nat->St->Hp->Prop)(l:b 0 σ H)(o:∀i σ H,i<=xs.length->b i σ H->SqT K H a xs)(hs:∀i x σ H,xs[i]?=some x->b i σ H->g x σ H fun d H2=>tb {D with nx:=b (i+1),ct:=b (i+1),bk:=D.nx} d H2)(hd:∀σ H,b xs.length σ H->D.nx σ H):∃W:Nat->Nat->St->Hp->Prop,(∃m,W 0 m σ H)/\∀i m σ H,W i m σ H->
   ((jf K a).stop i H/\D.nx σ H)\/((jf K a).go i H/\∃N:St->Hp->Prop,(∀f H',N f H'->∃h,h<m/\W (i+1) h f H')/\∀x H',(jf K a).yld i H x H'->g x σ H' fun d H2=>tb {D with nx:=N,ct:=N,bk:=D.nx} d H2):=by
 refine⟨fun i m σ H=>m=xs.length-i/\i<=xs.length/\b i σ H,⟨xs.length,by simp,AK _,l⟩,?_⟩;rintro i m σ H ⟨rfl,hi,p⟩;have q:=o i σ H hi p
 by_cases c:i<xs.length
 ·refine .inr ⟨⟨xs,xs[i],q,by simp[c]⟩,b (i+1),fun f H' j=>⟨xs.length-(i+1),ω,rfl,c,j⟩,fun x H' y=>?_⟩
  obtain⟨e,y⟩:=y;subst e;exact hs i x σ _ (y xs q) p
 ·have e:i=xs.length:=ω
  subst e;exact .inl ⟨⟨xs,q,Ag _⟩,hd σ H p⟩
def mW{lo:Int}{n:Nat}{g:TG}{tb:TS}{D:Ends}{σ:St}{H:Hp}(b:Nat->St->Hp->Prop)(j:b 0 σ H)(hs:∀i σ H,i<n->b i σ H->g (.int (lo+i)) σ H fun c H2=>tb {D with nx:=b (i+1),ct:=b (i+1),bk:=D.nx} c H2)(hd:∀σ H,b n σ H->D.nx σ H):∃W:Nat->Nat->St->Hp->Prop,(∃m,W 0 m σ H)/\∀i m σ H,W i m σ H->
   ((jg lo n).stop i H/\D.nx σ H)\/((jg lo n).go i H/\∃N:St->Hp->Prop,(∀d H',N d H'->∃f,f<m/\W (i+1) f d H')/\∀x H',(jg lo n).yld i H x H'->g x σ H' fun c H2=>tb {D with nx:=N,ct:=N,bk:=D.nx} c H2):=by
 refine⟨fun i m σ H=>m=n-i/\i<=n/\b i σ H,⟨n,by simp,AK _,j⟩,?_⟩;rintro i m σ H ⟨rfl,hi,p⟩
 by_cases a:i<n
 ·refine .inr ⟨a,b (i+1),fun d H' h=>⟨n-(i+1),ω,rfl,a,h⟩,fun x H' y=>?_⟩
  obtain⟨e,y⟩:=y;subst e y;exact hs i σ _ a p
 ·have e:i=n:=ω
  subst e;exact .inl ⟨Ag _,hd σ H p⟩
abbrev R2:=V->V->Hp->VK->Prop
def bU(X:Cx)(f:Value->Value->Sem Value)(r:R2):Prop:=
 ∀(aa:Ψ)(s:Shared)(σ:St)(H:Hp)(x y:V)(v u:Value)(Q:VK),Inv X aa σ H s->RelV x v->RelV y u->r x y H Q->
  wpAny (model X.prog X.w) X.A (f v u) (EP X aa σ Q) X.xe s
def wh(X:Cx)(f:Value->Sem Value)(r:V->Hp->VK->Prop):Prop:=
 ∀(aa:Ψ)(s:Shared)(σ:St)(H:Hp)(x:V)(v:Value)(Q:VK),Inv X aa σ H s->RelV x v->r x H Q->
  wpAny (model X.prog X.w) X.A (f v) (EP X aa σ Q) X.xe s
def zU(X:Cx)(f:Value)(r:List V->Hp->VK->Prop):Prop:=
 ∀(aa:Ψ)(s:Shared)(σ:St)(H:Hp)(xs:List V)(us:List Value)(Q:VK),Inv X aa σ H s->Vals xs us->r xs H Q->
  wpAny (model X.prog X.w) X.A (call f us) (EP X aa σ Q) X.xe s
def cb(r:R2)(ta tb:TE):TE:=fun σ H Q=>ta σ H fun x H1=>tb σ H1 fun y H2=>r x y H2 Q
def Dl(r:V->Hp->VK->Prop)(ta:TE):TE:=fun σ H Q=>ta σ H fun x H1=>r x H1 Q
def rI(C:Int->Int->Prop)(g:Int->Int->V):R2:=fun x y H Q=>∃i j,x=.int i/\y=.int j/\C i j/\Q (g i j) H
def fL(g:Int->Int->V):R2:=fun x y H Q=>∃i j,x=.int i/\y=.int j/\Q (g i j) H
def rU(g:Int->V):V->Hp->VK->Prop:=fun x H Q=>∃i,x=.int i/\Q (g i) H
section
variable{X:Cx}{a b c:Expr}{ta tb tc:TE}{pos:Pos}
def jO(p:PE X a ta)(hb:PE X b tb){aa:Ψ}{s:Shared}{σ:St}{H:Hp}{R:V->V->Hp->Prop}(I:Inv X aa σ H s)(h:ta σ H fun x H1=>tb σ H1 fun y H2=>R x y H2){Q:Ω}{f:Value->Value->Sem Value}(hf:∀v u c x y H2,Inv X aa σ H2 c->RelV x v->RelV y u->R x y H2->wpAny (model X.prog X.w) X.A (f v u) Q X.xe c):wpAny (model X.prog X.w) X.A (eval a X.env) (fun v d=>wpAny (model X.prog X.w) X.A (eval b X.env) (fun u e=>wpAny (model X.prog X.w) X.A (f v u) Q X.xe e) X.xe d) X.xe s:=by
 refine aL (p aa s σ H _ I h) fun v g ⟨x,H1,q,i,j⟩=>?_;refine aL (hb aa g σ H1 _ q j) fun u c ⟨y,H2,r,l,o⟩=>?_;exact hf v u c x y H2 r i l o
def zD{op:Operator}{r:R2}(f:bU X (binaryOp op) r)(g:PE X a ta)(hb:PE X b tb):PE X (.BinOp a op b pos) (cb r ta tb):=by
 intro aa s σ H Q I h;exact wpAny_BinOp (jO g hb I h fun v u c x y H2 i d e q=>f aa c σ H2 x y v u Q i d e q)
def qq{op:UnaryOp}{r:V->Hp->VK->Prop}(e:wh X (unaryOp op) r)(f:PE X a ta):PE X (.UnaryOp op a pos) (Dl r ta):=by
 intro aa s σ H Q I h;exact UnaryOp_ (aL (f aa s σ H _ I h) fun v b ⟨x,H1,g,c,d⟩=>e aa b σ H1 x v Q g c d)
def qu{f:Value->Value->Sem Value}{C:Int->Int->Prop}{g:Int->Int->Int}(rule:∀(i j:Int)(t u:Tok)(s:Shared)(Q:Ω)(E:Ω),C i j->Q (.int (g i j) s.toks) {s with toks:=s.toks+1}->wpAny (model X.prog X.w) X.A (f (.int i t) (.int j u)) Q E s):bU X f (rI C fun i j=>.int (g i j)):=by
 intro aa s σ H x y v u Q I a b h;obtain⟨i,j,rfl,rfl,hc,q⟩:=h;obtain⟨t,rfl⟩:=a;obtain⟨t',rfl⟩:=b;exact rule i j t t' s _ _ hc ⟨.int (g i j),H,I.tok _,⟨_,rfl⟩,q⟩
def mX{f:Value->Value->Sem Value}{g:Int->Int->Int}(rule:∀(i j:Int)(t u:Tok)(s:Shared)(Q:Ω)(E:Ω),Q (.int (g i j) s.toks) {s with toks:=s.toks+1}->wpAny (model X.prog X.w) X.A (f (.int i t) (.int j u)) Q E s):bU X f (fL fun i j=>.int (g i j)):=by
 intro aa s σ H x y v u Q I a b h;obtain⟨i,j,rfl,rfl,q⟩:=h;obtain⟨t,rfl⟩:=a;obtain⟨t',rfl⟩:=b;exact rule i j t t' s _ _ ⟨.int (g i j),H,I.tok _,⟨_,rfl⟩,q⟩
def ir{f:Value->Value->Sem Value}{g:Int->Int->Bool}(rule:∀(i j:Int)(t u:Tok)(s:Shared)(Q:Ω)(E:Ω),Q (.bool (g i j)) s->wpAny (model X.prog X.w) X.A (f (.int i t) (.int j u)) Q E s):bU X f (fL fun i j=>.bl (g i j)):=by
 intro aa s σ H x y v u Q I a b h;obtain⟨i,j,rfl,rfl,q⟩:=h;obtain⟨t,rfl⟩:=a;obtain⟨t',rfl⟩:=b;exact rule i j t t' s _ _ ⟨.bl (g i j),H,I,rfl,q⟩
def mY(i j:Int):Prop:=0<=j/\j<=1000000/\i.natAbs<2 ^ 64
def CMul(i j:Int):Prop:=(-(2 ^ 64)<i/\i<2 ^ 64)\/(-(2 ^ 64)<j/\j<2 ^ 64)
def CMul.ok{i j:Int}(h:CMul i j):IntMulOk i j:=by
 rcases h with ⟨h1,h2⟩|⟨h1,h2⟩
 ·exact .of_left (intBits_le_64 h1 h2)
 ·exact .of_right (intBits_le_64 h1 h2)
def dY:bU X (binaryOp .Add) (fL fun i j=>.int (i+j)):=mX fun _ _ _ _ _ _ _ q=>add_int q
def kN:bU X (binaryOp .Sub) (fL fun i j=>.int (i-j)):=mX fun _ _ _ _ _ _ _ q=>sub_int q
def f_:bU X (binaryOp .Mult) (rI CMul fun i j=>.int (i*j)):=qu fun _ _ _ _ _ _ _ hc q=>mul_int q hc.ok
def gb:bU X (binaryOp .Mod) (rI (fun _ j=>0<j) fun i j=>.int (i%j)):=qu fun i j _ _ _ _ _ hc q=>by
 have h1:(0:Int)<j:=hc;exact mod_int' ω (by rw[Int.fmod_eq_emod_of_nonneg i ω];exact q)
def qx:bU X (binaryOp .Pow) (rI mY fun i j=>.int (i ^ j.toNat)):=qu fun _ _ _ _ _ _ _ hc q=>pow_int_small hc.1 hc.2.1 hc.2.2 q
def Iw{f:Value->Sem Value}{g:Int->Int}(rule:∀(i:Int)(t:Tok)(s:Shared)(Q:Ω)(E:Ω),Q (.int (g i) s.toks) {s with toks:=s.toks+1}->wpAny (model X.prog X.w) X.A (f (.int i t)) Q E s):wh X f (rU fun i=>.int (g i)):=by
 intro aa s σ H x v Q I a h;obtain⟨i,rfl,q⟩:=h;obtain⟨t,rfl⟩:=a;exact rule i t s _ _ ⟨.int (g i),H,I.tok _,⟨_,rfl⟩,q⟩
def qz:wh X (unaryOp .USub) (rU fun i=>.int (-i)):=Iw fun _ _ _ _ _ q=>neg_int q
end
def nf:V->V->Bool
 |.non,.non=>true|.non,.int _=>true|.int _,.non=>true|.non,.bl _=>true|.bl _,.non=>true|.non,.str _=>true|.str _,.non=>true
 |.int _,.int _=>true|.bl _,.bl _=>true|.str _,.str _=>true|.byt _,.byt _=>true
 |.int _,.str _=>true|.str _,.int _=>true|.bl _,.str _=>true|.str _,.bl _=>true
 |_,_=>false
def nh:R2:=fun x y H Q=>nf x y=true/\Q (.bl (decide (x=y))) H
def qC:R2:=fun x y H Q=>nf x y=true/\Q (.bl (!decide (x=y))) H
def Dm{i j:Int}:decide (V.int i=V.int j)=(i==j):=by
 rw[Bool.eq_iff_iff];simp
def gf{i j:Bool}:decide (V.bl i=V.bl j)=(i==j):=by
 rw[Bool.eq_iff_iff];simp
def Dn{i j:Str}:decide (V.str i=V.str j)=(i==j):=by
 rw[Bool.eq_iff_iff];simp
def Do{i j:Array UInt8}:decide (V.byt i=V.byt j)=(i.toList==j.toList):=by
 rw[Bool.eq_iff_iff];cases i;cases j;simp
section
variable{X:Cx}{a b c:Expr}{ta tb tc:TE}{pos:Pos}
def ar{aa:Ψ}{σ:St}{H:Hp}{s:Shared}{Q:VK}{k a:Bool}(I:Inv X aa σ H s)(q:Q (.bl k) H)(e:k=a):EP X aa σ Q (.bool a) s:=by
 subst e;exact⟨.bl k,H,I,rfl,q⟩
def c_:bU X (compareOp .Eq) nh:=by
 intro aa s σ H x y v u Q I b a h;obtain⟨hs,q⟩:=h;cases x with
 |non=>
  cases b;cases y with
  |non=>cases a;exact PySem.EqNone.eq_none_none (ar I q (by simp))
  |bl j=>cases a;exact PySem.EqNone.eq_none_bool (ar I q (by simp))
  |int j=>obtain⟨t',rfl⟩:=a;exact PySem.EqNone.eq_none_int (ar I q (by simp))
  |str j=>obtain⟨t',rfl⟩:=a;exact PySem.EqNone.eq_none_str (ar I q (by simp))
  |_=>exact absurd (show false=true from hs) Aq
 |bl i=>
  cases b;cases y with
  |non=>cases a;exact PySem.EqNone.eq_bool_none (ar I q (by simp))
  |bl j=>cases a;exact eq_bool (ar I q gf)
  |str j=>obtain⟨t',rfl⟩:=a;exact PySem.EqMixed.eq_bool_str (ar I q (by simp))
  |_=>exact absurd (show false=true from hs) Aq
 |int i=>
  obtain⟨t,rfl⟩:=b;cases y with
  |non=>cases a;exact PySem.EqNone.eq_int_none (ar I q (by simp))
  |int j=>obtain⟨t',rfl⟩:=a;exact eq_int (ar I q Dm)
  |str j=>obtain⟨t',rfl⟩:=a;exact PySem.EqMixed.eq_int_str (ar I q (by simp))
  |_=>exact absurd (show false=true from hs) Aq
 |str i=>
  obtain⟨t,rfl⟩:=b;cases y with
  |non=>cases a;exact PySem.EqNone.eq_str_none (ar I q (by simp))
  |bl j=>cases a;exact PySem.EqMixed.eq_str_bool (ar I q (by simp))
  |int j=>obtain⟨t',rfl⟩:=a;exact PySem.EqMixed.eq_str_int (ar I q (by simp))
  |str j=>obtain⟨t',rfl⟩:=a;exact eq_str (ar I q Dn)
  |_=>exact absurd (show false=true from hs) Aq
 |byt i=>
  obtain⟨t,rfl⟩:=b;cases y with
  |byt j=>obtain⟨t',rfl⟩:=a;exact PySem.W.eq_bytes (ar I q Do)
  |_=>exact absurd (show false=true from hs) Aq
 |_=>cases y<;>exact absurd (show false=true from hs) Aq
def jQ:bU X (compareOp .NotEq) qC:=by
 intro aa s σ H x y v u Q I b a h;obtain⟨hs,q⟩:=h;cases x with
 |non=>
  cases b;cases y with
  |non=>cases a;exact PySem.EqNone.ne_none_none (ar I q (by simp))
  |bl j=>cases a;exact PySem.EqNone.ne_none_bool (ar I q (by simp))
  |int j=>obtain⟨t',rfl⟩:=a;exact PySem.EqNone.ne_none_int (ar I q (by simp))
  |str j=>obtain⟨t',rfl⟩:=a;exact PySem.EqNone.ne_none_str (ar I q (by simp))
  |_=>exact absurd (show false=true from hs) Aq
 |bl i=>
  cases b;cases y with
  |non=>cases a;exact PySem.EqNone.ne_bool_none (ar I q (by simp))
  |bl j=>cases a;exact ne_bool (ar I q (congrArg not gf))
  |str j=>obtain⟨t',rfl⟩:=a;exact PySem.EqMixed.ne_bool_str (ar I q (by simp))
  |_=>exact absurd (show false=true from hs) Aq
 |int i=>
  obtain⟨t,rfl⟩:=b;cases y with
  |non=>cases a;exact PySem.EqNone.ne_int_none (ar I q (by simp))
  |int j=>obtain⟨t',rfl⟩:=a;exact ne_int (ar I q (congrArg not Dm))
  |str j=>obtain⟨t',rfl⟩:=a;exact PySem.EqMixed.ne_int_str (ar I q (by simp))
  |_=>exact absurd (show false=true from hs) Aq
 |str i=>
  obtain⟨t,rfl⟩:=b;cases y with
  |non=>cases a;exact PySem.EqNone.ne_str_none (ar I q (by simp))
  |bl j=>cases a;exact PySem.EqMixed.ne_str_bool (ar I q (by simp))
  |int j=>obtain⟨t',rfl⟩:=a;exact PySem.EqMixed.ne_str_int (ar I q (by simp))
  |str j=>obtain⟨t',rfl⟩:=a;exact ne_str (ar I q (congrArg not Dn))
  |_=>exact absurd (show false=true from hs) Aq
 |byt i=>
  obtain⟨t,rfl⟩:=b;cases y with
  |byt j=>obtain⟨t',rfl⟩:=a;exact PySem.W.ne_bytes (ar I q (congrArg not Do))
  |_=>exact absurd (show false=true from hs) Aq
 |_=>cases y<;>exact absurd (show false=true from hs) Aq
def kO:bU X (compareOp .Lt) (fL fun i j=>.bl (decide (i<j))):=ir fun _ _ _ _ _ _ _ q=>lt_int q
def qD:bU X (compareOp .LtE) (fL fun i j=>.bl (decide (i<=j))):=ir fun _ _ _ _ _ _ _ q=>le_int q
def ix:bU X (compareOp .Gt) (fL fun i j=>.bl (decide (j<i))):=ir fun _ _ _ _ _ _ _ q=>gt_int q
def Ix:bU X (compareOp .GtE) (fL fun i j=>.bl (decide (j<=i))):=ir fun _ _ _ _ _ _ _ q=>ge_int q
def aq(b:Expr){op:CmpOp}(h:op≠.In:=by decide)(h2:op≠.NotIn:=by decide):behindInMarks op b=false:=by
 have e1:(op==CmpOp.In)=false:=by cases op<;>first|rfl|exact absurd rfl h
 have e2:(op==CmpOp.NotIn)=false:=by cases op<;>first|rfl|exact absurd rfl h2
 cases b<;>simp[behindInMarks,e1,e2]
def hG{op:CmpOp}{r:R2}(f:bU X (compareOp op) r)(g:PE X a ta)(hb:PE X b tb)(hm:behindInMarks op b=false):PE X (.Compare a [op] [b] pos) (cb r ta tb):=by
 intro aa s σ H Q I h;exact wpAny_Compare1 (jO g hb I h fun v u c x y H2 i d e q=>f aa c σ H2 x y v u Q i d e q) hm
def hU(t:TE):TT:=fun σ H Q=>t σ H fun x H'=>∃k,x=.bl k/\Q k H'
def zo{op:CmpOp}{r:R2}(q:bU X (compareOp op) r)(w:PE X a ta)(hb:PE X b tb)(hm:behindInMarks op b=false):PT X (.Compare a [op] [b] pos) (hU (cb r ta tb)):=by
 intro aa s σ H Q I h;refine wpAny_isTrue_Compare1 (aL (w aa s σ H _ I h) fun v d ⟨x,H1,A,f,g⟩=>aL (hb aa d σ H1 _ A g) fun u i ⟨y,H2,C,j,l⟩=>
  aL (q aa i σ H2 x y v u _ C f j l) fun c F ⟨z,D,E,o,k,e,p⟩=>?_) hm
 subst e;cases o;exact wpAny_truthy_bool ⟨D,E,p⟩
def Iy(r c:R2)(ta tb tc:TE):TE:=fun σ H Q=>ta σ H fun x H1=>tb σ H1 fun y H2=>r x y H2 fun z a=>∃k,z=.bl k/\
 (if k=true then tc σ a fun b d=>c y b d Q else Q (.bl false) a)
def Iz{op f:CmpOp}{r l:R2}(U:bU X (compareOp op) r)(g:bU X (compareOp f) l)(W:PE X a ta)(hb:PE X b tb)(hc:PE X c tc)(hm:lastMarks [op,f] [b,c]=false:=by with_unfolding_all rfl):PT X (.Compare a [op,f] [b,c] pos) (hU (Iy r l ta tb tc)):=by
 intro aa s σ H Q I h;refine isTrue_chain (aL (W aa s σ H _ I h) fun v q ⟨x,H1,Y,w,A⟩=>test_link (aL (hb aa q σ H1 _ Y A) fun u C ⟨y,H2,Z,i,D⟩=>
  aL (U aa C σ H2 x y v u _ Z w i D) fun d E ⟨z,o,p,F,k,e,j⟩=>?_)) hm
 subst e;cases F;refine wpAny_truthy_bool ?_;cases k with
 |false=>
  obtain⟨k',S,T⟩:=j;cases S;exact ite_ff ⟨o,p,T⟩
 |true=>
  refine ite_tt (test_last (aL (hc aa E σ o _ p j) fun G J ⟨L,H4,I4,M,N⟩=>aL (g aa J σ H4 y L u G _ I4 i M N) fun d' s5 ⟨z2,H5,I5,O,k2,e2,P⟩=>?_));subst e2;cases O;exact wpAny_truthy_bool ⟨H5,I5,P⟩
def dj:(sizeLine:Nat)<2 ^ 63:=by rw[sizeLine_eq];decide
def vals1{x:V}{us:List Value}(r:Vals [x] us):∃u,us=[u]/\RelV x u:=by
 cases r with
 |cons r1 r2=>cases r2;exact⟨_,rfl,r1⟩
def vals2{x y:V}{us:List Value}(r:Vals [x,y] us):∃u a,us=[u,a]/\RelV x u/\RelV y a:=by
 cases r with
 |cons r1 r2=>
  cases r2 with
  |cons r3 r4=>cases r4;exact⟨_,_,rfl,r1,r3⟩
end
structure ObjM(h:Heap)(x dx C:Addr)(mA:Str->Option Value):Prop where
 obj:h.get? x=some (PySem.W.instObj C dx)
 ns:h.Ns1 dx mA
 ne:dx≠x
def IA{h:Heap}{dx:Addr}{mA:Str->Option Value}(n:h.Ns1 dx mA):∃b,h.get? dx=some b/\∀name,PySem.W.lookIn name b=some (mA name):=by
 obtain⟨o,es,ep,c,hd,hk,_,hm⟩:=n;refine⟨o,c,fun name=>?_⟩;have e:=hm name;unfold nsFind findBy at e;rw[<-Array.find?_toList] at e;unfold PySem.W.lookIn;rw[hd];dsimp only;split
 ·rename_i y q
  rw[q] at e;exact congrArg some e
 ·rename_i q
  rw[q] at e;have a:es.toList.any (·.refKey)=false:=by
   rw[List.any_eq_false];intro y hy;obtain⟨z,t,d⟩:=hk y (Array.mem_toList_iff.mp hy);simp[DictEntry.refKey,d]
  have f:¬es.toList.any (·.refKey)=true:=by rw[a];exact Aq
  rw[if_neg f];exact congrArg some e
def ObjM.look{h:Heap}{x dx C:Addr}{mA:Str->Option Value}(I:ObjM h x dx C mA):∃a,PySem.W.InstAt h x (PySem.W.instObj C dx) C (some a)/\∀name,PySem.W.lookIn name a=some (mA name):=
 let ⟨a,ho,hl⟩:=IA I.ns
 ⟨a,⟨I.obj,rfl,rfl,ho⟩,hl⟩
def RelO.some_of{v:V}{o:Option Value}(r:RelO (some v) o):∃u,o=some u/\RelV v u:=by
 cases o with
 |none=>exact(show False from r).elim
 |some u=>exact⟨u,rfl,r⟩
section
variable{P:Program}{w:World}{H H':Hp}{h h':Heap}{a C dx:Addr}{fs yd:List (Str×V)}
def eN(b:HOk P w H h)(e:H a=some (.ins C dx fs)):∃mA,ObjM h a dx C mA/\(∀f,RelO (fs.lookup f) (mA f))/\PySem.Within mA (fs.map (·.1))/\fs.length<=1000/\H dx=some (.own a):=by
 obtain⟨d,z,ne,ob,mA,n,r,q⟩:=(show zB P w H h a (.ins C dx fs) from b a _ e);exact⟨mA,⟨ob,n,ne⟩,r,q,z,d⟩
end
structure Cls(K:Ae)(C:Addr):Prop where
 pg:PySem.W.plainGet K C Str.empty=true
 hd:PySem.W.hasDictIn K C=true
 po:PySem.W.plainOver K C=true
 sa:PySem.W.findIn K (.ref C) "__setattr__"=some (some (.builtin "object.__setattr__"))
def Cls.get{K:Ae}{C:Addr}(c:Cls K C)(f:Str):PySem.W.plainGet K C f=true:=c.pg
section
variable{X:Cx}{aa:Ψ}{σ:St}{H:Hp}{s:Shared}{A:Around}{E:Ω}{Q:Ω}{c:Value}{b:Bool}
inductive cT(K:Ae)(H:Hp):V->Value->Prop where
 |non:cT K H .non (.type "NoneType")
 |bl (x:Bool):cT K H (.bl x) (.type "bool")
 |int (i:Int):cT K H (.int i) (.type "int")
 |str (x:Str):cT K H (.str x) (.type "str")
 |flt (x:UInt64):cT K H (.flt x) (.type "float")
 |lst {a:Addr} {xs:List V} (e:H a=some (.lst xs)):cT K H (.ref a) (.type "list")
 |frz {a:Addr} {o:Obj} {xs:List V} (e:H a=some (.frz o (.lst xs))):cT K H (.ref a) (.type "list")
 |tup {a:Addr} {xs:List V} (e:H a=some (.tup xs)):cT K H (.ref a) (.type "tuple")
 |dK {a:Addr} {kvs:List (Key×V)} (e:H a=some (.dK kvs)):cT K H (.ref a) (.type "dict")
 |dT {a:Addr} {kvs:List (List Key×V)} (e:H a=some (.dT kvs)):cT K H (.ref a) (.type "dict")
 |ins {a C dx:Addr} {fs:List (Str×V)} (e:H a=some (.ins C dx fs)) (cl:Cls K C) (ha:PySem.W.findIn K (.ref C) "__class__"=some (some (.builtin "object.__class__")))
   (hn:PySem.W.specialIn K (.builtin "object.__class__") "__get__"=some (some (.builtin "getset_descriptor.__get__"))) (kl:PySem.W.takesIn K (.builtin "object.__class__")=some true)
   (hm:PySem.W.mroIn K C (.type "object")=some true):cT K H (.ref a) (.ref C)
def qH{x:V}{u t:Value}(I:Inv X aa σ H s)(d:RelV x u)(ty:cT X.K H x t)(e:AJ X.K t c=some b)(h:∀tk,Q (.bool b) {s with toks:=tk}):wpAny (model X.prog X.w) A (call (.builtin "isinstance") [u,c]) Q E s:=by
 cases ty with
 |non=>cases(show u=Value.none from d);exact PySem.W.kia_one PySem.W.kitx_none I.kIn True.intro e (fun z=>nomatch z) h
 |bl y=>cases(show u=Value.bool y from d);exact PySem.W.kia_one PySem.W.kitx_bool I.kIn True.intro e (fun z=>nomatch z) h
 |int i=>obtain⟨t,q⟩:=(show ∃t,u=Value.int i t from d);cases q;exact PySem.W.kia_one PySem.W.kitx_int I.kIn True.intro e (fun z=>nomatch z) h
 |str y=>obtain⟨t,q⟩:=(show ∃t,u=Value.str y t from d);cases q;exact PySem.W.kia_one PySem.W.kitx_str I.kIn True.intro e (fun z=>nomatch z) h
 |flt y=>obtain⟨t,q⟩:=(show ∃t,u=Value.float y t from d);cases q;exact PySem.W.kia_one PySem.W.kitx_float I.kIn True.intro e (fun z=>nomatch z) h
 |@lst a xs ea=>
  cases(show u=Value.ref a from d);obtain⟨_,_,n,_,h1⟩:=(show zB X.prog X.w H s.heap a (.lst xs) from I.hok a _ ea);exact PySem.W.kia_one PySem.W.kitx_list I.kIn ⟨_,h1,rfl⟩ e (fun z=>nomatch z) h
 |@frz a ob xs ea=>
  cases(show u=Value.ref a from d);obtain⟨_,_,_,n,_,h1⟩:=(show zB X.prog X.w H s.heap a (.frz ob (.lst xs)) from I.hok a _ ea);exact PySem.W.kia_one PySem.W.kitx_list I.kIn ⟨_,h1,rfl⟩ e (fun z=>nomatch z) h
 |@tup a xs ea=>
  cases(show u=Value.ref a from d);obtain⟨_,_,_,p⟩:=(show zB X.prog X.w H s.heap a (.tup xs) from I.hok a _ ea);obtain⟨o,h1,h2,_⟩:=p;exact PySem.W.kia_one PySem.W.kitx_tuple I.kIn ⟨o,h1,h2⟩ e (fun z=>nomatch z) h
 |@dK a kvs ea=>
  cases(show u=Value.ref a from d);obtain⟨_,_,vs,_,p⟩:=(show zB X.prog X.w H s.heap a (.dK kvs) from I.hok a _ ea);obtain⟨o,es,ep,h1,h2,_⟩:=p;exact PySem.W.kia_one PySem.W.kitx_dict I.kIn ⟨o,h1,h2.1⟩ e (fun z=>nomatch z) h
 |@dT a kvs ea=>
  cases(show u=Value.ref a from d);obtain⟨_,_,xs,_,o,es,ep,h1,h2,_⟩:=(show zB X.prog X.w H s.heap a (.dT kvs) from I.hok a _ ea);exact PySem.W.kia_one PySem.W.kitx_dict I.kIn ⟨o,h1,h2.1⟩ e (fun z=>nomatch z) h
 |@ins a C dx fs ea cl ha hn kl hm=>
  cases(show u=Value.ref a from d);obtain⟨mA,O,_⟩:=eN I.hok ea;obtain⟨f,J,_⟩:=O.look;exact PySem.W.kia_one (PySem.W.kitx_own (cl.get _) cl.hd ha hn kl hm) I.kIn J e (fun z=>nomatch z) h
end
structure Room(k:Nat)(A:Around):Prop where
 hd:A.handled=none
 dp:A.depth+3*k+5<recursionLimit
 un:A.units+16*k+200<cLine
def Room.mono{j k:Nat}{A:Around}(r:Room k A)(h:j<=k):Room j A:=⟨r.hd,by have:=r.dp;omega,by have:=r.un;omega⟩
def Room.deeper{k:Nat}{A:Around}(r:Room (k+1) A)(env:Env):Room k (A.deeper env):=
 ⟨r.hd,by have:=r.dp;show A.depth+1+3*k+5<_;omega,by have:=r.un;show A.units+3+16*k+200<_;omega⟩
def Room.in1{k:Nat}{A:Around}(r:Room (k+1) A):Room k A.in1:=
 ⟨r.hd,by have:=r.dp;show A.depth+3*k+5<_;omega,by have:=r.un;show A.units+1+16*k+200<_;omega⟩
def Room.depth{k:Nat}{A:Around}(r:Room k A):A.depth<recursionLimit:=by have:=r.dp;omega
def Room.units{k:Nat}{A:Around}(r:Room k A):A.units+64<cLine:=by have:=r.un;omega
def a8:TA:=fun _ H Q=>Q [] H
def zJ(ta:TE)(a:TA):TA:=fun σ H Q=>ta σ H fun x H1=>a σ H1 fun xs H2=>Q (x::xs) H2
section
variable{X:Cx}{e:Expr}{es:List Expr}{te:TE}{t:TA}{pos:Pos}
def al:PA X [] a8:=fun _ _ _ _ H Q I h=>Calls.spliced_nil ⟨[],H,I,.nil,h⟩
def ac(g:PE X e te)(hr:PA X es t)(hs:starEach (e::es) X.env=(false,eval e X.env)::starEach es X.env:=by rfl):PA X (e::es) (zJ te t):=by
 intro pos aa s σ H Q I h;rw[hs];show wpAny _ _ (spliced ((false,eval e X.env)::backTo pos (starEach es X.env))) _ _ s;refine Calls.spliced_cons (aL (g aa s σ H _ I h) fun u a ⟨x,H1,i,b,c⟩=>?_);exact aL (hr pos aa a σ H1 _ i c) fun us l ⟨xs,H2,j,d,f⟩=>⟨x::xs,H2,j,.cons b d,f⟩
def dq(t:TA):TE:=fun σ H Q=>t σ H fun xs H1=>xs.length<=sizeLine/\∀p,H1 p=none->Q (.ref p) (upd H1 p (.tup xs))
def wl(t:TA):TE:=fun σ H Q=>t σ H fun xs H1=>xs.length<=sizeLine/\∀p,H1 p=none->Q (.ref p) (upd H1 p (.lst xs))
def fQ{x1}(h:PA X es t):PE X (.Tuple es x1 pos) (dq t):=by
 intro aa s σ H Q I hq;refine wpAny_Tuple_spliced (aL (h pos aa s σ H _ I hq) fun us a ⟨xs,H1,I1,r,z,q⟩=>⟨by rw[<-r.length];exact z,?_⟩);have hf:H1 a⁻¹=none:=I1.hok.fresh (Ag _);refine⟨.ref a⁻¹,upd H1 a⁻¹ (.tup xs),I1.laid (t':=a.toks) (fun b u e=>Ad _ e) (Ag _) ?_,rfl,q _ hf⟩;exact⟨z,us,r,⟨_,Al _ rfl,rfl,_,rfl⟩⟩
def zQ(h:PA X es t):PE X (.List es pos) (wl t):=by
 intro aa s σ H Q I hq;refine wpAny_List_spliced (aL (h pos aa s σ H _ I hq) fun us a ⟨xs,H1,I1,r,z,q⟩=>⟨by rw[<-r.length];exact z,?_⟩);have hf:H1 a⁻¹=none:=I1.hok.fresh (Ag _);refine⟨.ref a⁻¹,upd H1 a⁻¹ (.lst xs),I1.laid (t':=a.toks) (fun b u e=>Ad _ e) (Ag _) ?_,rfl,q _ hf⟩;exact⟨z,us,0,r,Al _ rfl⟩
end
abbrev Sp:=List V->Hp->VK->XK->Prop
abbrev eu:=List Env->Hp->Shared->XK->Ω
structure Env0(P:Program)(w:World)(K:Ae)(mg:Str->Option Value)(base:Heap)(A:Around)(outer:List Env)(s:Shared)(H:Hp):Prop where
 frames:A.frames=some outer
 mod:Mod K mg base
 bs:∀b o,base.get? b=some o->s.heap.get? b=some o/\H b=none
 bsz:base.objs.size<=s⁻¹
 funs:s.heap.FunFrames base outer
 frf:∀b∈frs outer,H b=none
 hok:HOk P w H s.heap
 bare:AllBare s.gens
def CE(outer:List Env)(P:Program)(w:World)(H:Hp)(s:Shared)(Q:VK)(u:Value)(s':Shared):Prop:=
 ∃v H',s'.os=s.os/\AllBare s'.gens/\Un (frs outer) [] H H' s.heap s'.heap/\HOk P w H' s'.heap/\RelV v u/\Q v H'
def CR(CX:eu)(outer:List Env)(P:Program)(w:World)(H:Hp)(s:Shared)(Q:VK)(E:XK)(r:Result)(s':Shared):Prop:=
 match r with
 |.ok (.ret u)=>CE outer P w H s Q u s'
 |.ok _=>False
 |.error e=>CX outer H s E e s'
structure FnOk(P:Program)(w:World)(K:Ae)(mg:Str->Option Value)(base:Heap)(CX:eu)(k:Nat)(f:Addr)(fd:FuncData)(ps:List Str)(sp:Sp):Prop where
 len:∀vs H Q E,sp vs H Q E->vs.length=ps.length
 run:∀(A:Around)(outer:List Env)(s:Shared)(H:Hp)(args:Args)(us:List Value)(vs:List V)(Q:VK)(E:XK),Room k A->Env0 P w K mg base A outer s H->BindsTo s fd args (ps.zip us)->Vals vs us->sp vs H Q E->
  codeAny (model P w) A (.call (.ref f) args) (CR CX outer P w H s Q E) s
def Env0.in1{P:Program}{w:World}{K:Ae}{mg:Str->Option Value}{base:Heap}{A:Around}{outer:List Env}{s:Shared}{H:Hp}(e:Env0 P w K mg base A outer s H):Env0 P w K mg base A.in1 outer s H:=⟨e.frames,e.mod,e.bs,e.bsz,e.funs,e.frf,e.hok,e.bare⟩
section
variable{X:Cx}{aa:Ψ}{σ:St}{H:Hp}{s s':Shared}
def Inv.env0(I:Inv X aa σ H s):Env0 X.prog X.w X.K X.mg X.base X.A X.stack s H:=
 ⟨I.ok.frames,I.ok.mod,I.bs,AO I.ok.bsz I.sz,I.stack,I.stkFree,I.hok,I.bare⟩
def Inv.after{Q:VK}{u:Value}(I:Inv X aa σ H s)(h:CE X.stack X.prog X.w H s Q u s'):EP X aa σ Q u s':=by
 obtain⟨v,H',os,a,un,c,r,q⟩:=h;obtain⟨e,g,d,t,f⟩:=s';obtain rfl:f=s.os:=os;exact⟨v,H',I.call (h':=e) (g':=g) (d':=d) (t':=t) (ch:=[]) un c a (fun b z=>absurd z (by simp)),r,q⟩
end
def qK(sp:Sp)(dQ:List V)(E:XK)(t:TA):TE:=fun σ H Q=>t σ H fun vs H1=>sp (vs++dQ) H1 Q E
def Binds(K:Ae)(fd:FuncData)(ps:List Str)(ds:List Value):Prop:=
 ∀(s:Shared)(us:List Value),K.In s.heap->(us++ds).length=ps.length->BindsTo s fd ⟨us,[]⟩ (ps.zip (us++ds))
def Binds.all{K:Ae}{fd:FuncData}{ps:List Str}(h:∀us:List Value,us.length=ps.length->bindArgs fd ⟨us,[]⟩=pure (ps.zip us)):Binds K fd ps []:=fun s us _ a=>by
 rw[List.append_nil] at a ⊢;exact .of_eq (h us a)
def cF(CX:eu)(X:Cx)(E:XK):Prop:=∀(aa:Ψ)(σ:St)(H:Hp)(s:Shared)(e:Value)(s':Shared),Inv X aa σ H s->CX X.stack H s E e s'->X.xe e s'
section
variable{X:Cx}{CX:eu}{k:Nat}{f C:Addr}{fd:FuncData}{ps:List Str}{sp:Sp}{dQ:List V}{ds:List Value}{E:XK}{x m:Str}{p pos aS:Pos}{e o:Expr}{es:List Expr}{ta:TE}{t:TA}
def IB{aa:Ψ}{σ:St}{H:Hp}{s:Shared}{Q:VK}{us:List Value}{vs:List V}(F:FnOk X.prog X.w X.K X.mg X.base CX k f fd ps sp)(hr:Room k X.A)(hb:Binds X.K fd ps ds)(hd:Vals dQ ds)(hx:cF CX X E)(I:Inv X aa σ H s)(r:Vals vs us)(h:sp (vs++dQ) H Q E):wpAny (model X.prog X.w) X.A (call (.ref f) us) (EP X aa σ Q) X.xe s:=by
 have a:Vals (vs++dQ) (us++ds):=r.append hd;have b:(us++ds).length=ps.length:=by rw[<-a.length];exact F.len _ _ _ _ h
 refine wpAny_call (Bc (F.run X.A X.stack s H ⟨us,[]⟩ (us++ds) (vs++dQ) Q E hr I.env0 (hb s us I.kIn b) a h) fun r s' hq=>?_);cases r with
 |error e=>exact hx aa σ H s e s' I hq
 |ok fl=>
  cases fl with
  |ret u=>exact I.after hq
  |next=>exact False.elim hq
  |brk=>exact False.elim hq
  |cont=>exact False.elim hq
def zq(F:FnOk X.prog X.w X.K X.mg X.base CX k f fd ps sp)(hr:Room k X.A)(b:Gl X x)(hm:X.mg x=some (.ref f))(hk:PySem.W.keepIn X.K (.ref f)=true)(hb:Binds X.K fd ps ds)(hd:Vals dQ ds)(hx:cF CX X E)(c:PA X (e::es) t)(d:(x==("__debug__":Str))=false:=by decide)(he:starEach (e::es) X.env=(false,eval e X.env)::starEach es X.env:=by rfl)(a:(backTo pos (starEach es X.env)).any (·.1)=false:=by rfl):PE X (.Call (.Name x p) (e::es) [] pos) (qK sp dQ E t):=by
 intro aa s σ H Q I h;refine wpAny_Call_Name_kw (mm I b hm ?_ d);refine PySem.W.callWith_K (h₀:=X.base) I.ok.mod.kin hk (aL (c pos aa s σ H _ I h) fun us g ⟨vs,H1,I1,r,q⟩=>⟨I1.kIn,?_⟩) he a;exact IB F hr hb hd hx I1 r q
structure Mk(K:Ae)(C f:Addr):Prop where
 makes:PySem.W.makesIn K C=true
 init:PySem.W.findIn K (.ref C) "__init__"=some (some (.ref f))
 fn:PySem.W.isFn K (.ref f)=true
 kp:PySem.W.keepIn K (.ref C)=true
end
structure zn(N P:List Str)(sc:Scope):Prop where
 kind:sc.kind=.function
 co:sc.isCoroutine=false
 gen:sc.isGenerator=false
 nd:N.Nodup
 pre:N.take P.length=P
 par:∀x∈P,sc.names.lookup x=some .local\/sc.names.lookup x=some .cell
 nofree:∀y∈sc.names,y.2≠.free
def Dp{kindOf:Str->Option NameKind}{x:Str}:∀{binds:List (Str×Value)}{m:Str->Option Value},(∀v,(x,v)∉binds)->bindL kindOf binds m x=m x
 |[],_,_=>rfl
 |(n,v)::r,m,h=>by
  unfold bindL;rw[Dp fun w hw=>h w (Ay _ hw)];split
  ·have:x≠n:=by rintro rfl;exact h v Av
   simp[this]
  ·rfl
def Dq{kindOf:Str->Option NameKind}{x:Str}:∀{binds:List (Str×Value)}{m:Str->Option Value},(∀v,(x,v)∉binds)->bindC kindOf binds m x=m x
 |[],_,_=>rfl
 |(n,v)::r,m,h=>by
  unfold bindC;rw[Dq fun w hw=>h w (Ay _ hw)];split
  ·rfl
  ·have:x≠n:=by rintro rfl;exact h v Av
   simp[this]
def Dr{kindOf:Str->Option NameKind}{x:Str}{v:Value}:∀{P:List Str}{vs:List Value}{i:Nat}{m:Str->Option Value},P.Nodup->P[i]?=some x->vs[i]?=some v->kindOf x=some .local->
  bindL kindOf (P.zip vs) m x=some v
 |[],_,_,_,_,h,_,_=>by simp at h
 |_::_,[],_,_,_,_,h,_=>by simp at h
 |p::P,w::vs,0,m,nd,h1,h2,hk=>by
  simp at h1 h2;subst h1;subst h2;show bindL kindOf ((p,w)::P.zip vs) m p=_;unfold bindL;rw[Dp fun v a=>(List.nodup_cons.mp nd).1 (List.of_mem_zip a).1,if_pos hk];simp
 |p::P,w::vs,i+1,m,nd,h1,h2,hk=>by
  show bindL kindOf ((p,w)::P.zip vs) m x=_;unfold bindL;exact Dr (i:=i) (List.nodup_cons.mp nd).2 (by simpa using h1) (by simpa using h2) hk
def Ds{kindOf:Str->Option NameKind}{x:Str}{v:Value}:∀{P:List Str}{vs:List Value}{i:Nat}{m:Str->Option Value},P.Nodup->P[i]?=some x->vs[i]?=some v->kindOf x≠some .local->
  bindC kindOf (P.zip vs) m x=some v
 |[],_,_,_,_,h,_,_=>by simp at h
 |_::_,[],_,_,_,_,h,_=>by simp at h
 |p::P,w::vs,0,m,nd,h1,h2,hk=>by
  simp at h1 h2;subst h1;subst h2;show bindC kindOf ((p,w)::P.zip vs) m p=_;unfold bindC;rw[Dq fun v a=>(List.nodup_cons.mp nd).1 (List.of_mem_zip a).1,if_neg hk];simp
 |p::P,w::vs,i+1,m,nd,h1,h2,hk=>by
  show bindC kindOf ((p,w)::P.zip vs) m x=_;unfold bindC;exact Ds (i:=i) (List.nodup_cons.mp nd).2 (by simpa using h1) (by simpa using h2) hk
def start(N:List Str)(vs:List V):St:=vs.map some++List.replicate (N.length-vs.length) none
def bh(CX:eu)(P:Program)(w:World)(K:Ae)(mg:Str->Option Value)(base:Heap)(N:List Str)(a:Str)(scope:Scope)(f:Addr)(b:Value)(A:Around)(outer:List Env)(s:Shared)(H:Hp)(E:XK):Cx where
 prog:=P
 w:=w
 K:=K
 mg:=mg
 base:=base
 A:=A.deeper (envOfC a scope s⁻¹ f b)
 N:=N
 s₀:=s
 H₀:=H
 env:=envOfC a scope s⁻¹ f b
 outer:=outer
 stack:=envOfC a scope s⁻¹ f b::outer
 ex:=[]
 calm:=true
 fn:=fun _=>true
 pn:=[]
 xe:=fun e s'=>wpAny (model P w) (A.deeper (envOfC a scope s⁻¹ f b)) (leaving (envOfC a scope s⁻¹ f b) e) (fun _ c=>CX outer H s E e c) (fun d c=>CX outer H s E d c) s'
def Dt{a:Scope}{n:Nat}{x:Str}(h:a.names.lookup x=some .cell):∃c,(cellsFrom n a.names []).lookup x=some c:=by
 have q:=PySem.W.cellsFrom_some a.names n [] (.inl h);exact Option.isSome_iff_exists.mp q
def Du{CX:eu}{P:Program}{w:World}{K:Ae}{mg:Str->Option Value}{base:Heap}{N ps:List Str}{j:Str}{scope:Scope}{f:Addr}{l:Value}{A:Around}{outer:List Env}{s C:Shared}{H:Hp}{E:XK}{us:List Value}{vs:List V}(S:zn N ps scope)(hd:A.handled=none)(d:Env0 P w K mg base A outer s H)(J:vs.length=ps.length)(r:Vals vs us)(x:InCallC s s⁻¹ (bindL (envOfC j scope s⁻¹ f l).kindOf (ps.zip us) fun _=>none) (cellsFrom (s⁻¹+1) scope.names []) (bindC (envOfC j scope s⁻¹ f l).kindOf (ps.zip us) fun _=>none) C):Inv (bh CX P w K mg base N j scope f l A outer s H E) [] (start N vs) H C:=by
 have F:ps.length<=N.length:=by have:=congrArg List.length S.pre;rw[AG] at this;omega
 obtain⟨h1,tk,rfl,hk⟩:=x.done;have o:∀b:Addr,b∉(bh CX P w K mg base N j scope f l A outer s H E).ex:=fun b z=>absurd (show b∈([]:List Addr) from z) (by simp);refine⟨⟨d.mod,S.kind,rfl,rfl,Ag _,fun y z c h1 h2=>?_,fun y hy=>?_,fun y c _ h=>?_,fun _=>hd,Around.frames_deeper d.frames,.inr ⟨rfl,rfl⟩,fun b z=>absurd z (o b),d.bs,d.bsz,fun b _ _=>o b,fun b z=>absurd z (o b),d.funs,d.frf⟩,
  rfl,d.bare,Un.kept hk,⟨_,x.toInCall.ns,fun i y v h1 h2 I=>?_⟩,fun y c h=>⟨_,x.cell y c h⟩,d.hok.fresh (Ag _),fun y c h=>?_,fun p hp=>absurd (show p∈([]:Ψ) from hp) (by simp),d.hok.kept hk,?_⟩
 ·exact name_of_addr x.apart (PySem.mem_of_lookup h1) (PySem.mem_of_lookup h2)
 ·have hy:scope.names.lookup y=some .cell\/scope.names.lookup y=some .free:=hy
  rcases hy with hy|hy
  ·exact Dt hy
  ·exact absurd rfl (S.nofree _ (PySem.mem_of_lookup hy))
 ·exact Nat.le_of_lt (x.above y c (PySem.mem_of_lookup h))
 ·have hi:i<vs.length:=by
   unfold start at h2
   by_cases hi:i<vs.length
   ·exact hi
   ·rw[List.getElem?_append_right (by simpa using hi)] at h2
    rw[List.getElem?_replicate] at h2;split at h2<;>cases h2
  have G:vs[i]?=some v:=by
   unfold start at h2;rw[List.getElem?_append_left (by simpa using hi),Ai] at h2;cases e:vs[i]? with
   |none=>rw[e] at h2;cases h2
   |some a=>rw[e] at h2;cases h2;rfl
  obtain⟨u,hu,D⟩:=r.get G;have hp:ps[i]?=some y:=by
   rw[<-S.pre,List.getElem?_take_of_lt ω];exact h1
  have g:ps.Nodup:=by rw[<-S.pre];exact S.nd.sublist (List.take_sublist _ _)
  refine⟨u,D,?_⟩;rcases S.par y (Ap hp) with k|k
  ·exact .inl ⟨k,Dr g hp hu k⟩
  ·obtain⟨c,e⟩:=Dt (n:=s⁻¹+1) k
   refine .inr ⟨.inl k,c,e,?_⟩;have q:=x.cell y c e;rw[Ds g hp hu (by show scope.names.lookup y≠_;rw[k];decide)] at q;exact q
 ·exact d.hok.fresh (Nat.le_of_lt (x.above y c (PySem.mem_of_lookup h)))
 ·unfold start
  show _=N.length;rw[As,Ab,List.length_replicate];omega
def Dv{CX:eu}{P:Program}{w:World}{K:Ae}{mg:Str->Option Value}{base:Heap}{k:Nat}{f:Addr}{name a:Str}{h:Arguments}{body:List Stmt}{scope:Scope}{i kV j l cdv ct X:Value}{p Y:Option Addr}{F:Array (Option Value)}{N ps:List Str}{sp:Sp}(lk:K.lookup f=some ⟨X,Y,.func (PySem.W.fnOf name a h body scope i kV j l p cdv ct),F⟩)(G:PySem.W.codeIn K cdv a=true)(S:zn N ps scope)(len:∀vs H Q E,sp vs H Q E->vs.length=ps.length)(Z:∀(A:Around)(outer:List Env)(s:Shared)(H:Hp)(vs:List V)(Q:VK)(E:XK),Room k (A.deeper (envOfC a scope s⁻¹ f cdv))->sp vs H Q E->
   ∃t,PSs (bh CX P w K mg base N a scope f cdv A outer s H E) body t/\t {nx:=fun _ H'=>Q .non H',rt:=Q} (start N vs) H):
  FnOk P w K mg base CX (k+1) f (PySem.W.fnOf name a h body scope i kV j l p cdv ct) ps sp:=by
 refine⟨len,fun A outer s H args us vs Q E hr c hb r z=>?_⟩;have O:=len _ _ _ _ z;have D:K.In s.heap:=c.mod.kin.keeps fun b o e=>(c.bs b o e).1;have T:s.heap.NoLimit:=c.mod.nolimit.keeps fun b o e=>(c.bs b o e).1;have U:∀y∈ps.zip us,scope.names.lookup y.1=some .local\/(scope.names.lookup y.1=some .cell/\((cellsFrom (s⁻¹+1) scope.names []).lookup y.1).isSome=true):=fun⟨n,v⟩ hy=>by
  rcases S.par n (List.of_mem_zip hy).1 with q|q
  ·exact .inl q
  ·exact .inr ⟨q,PySem.W.cellsFrom_some _ _ _ (.inl q)⟩
 refine codeAny_call_function hr.depth (D _ _ lk) rfl S.co S.gen rfl (PySem.W.codeRec_of D G) (hb _ _ _ _ ?_);refine wpAny_newFunctionEnv_cells S.kind U fun env he C x=>?_;subst he;refine⟨T.keeps x.toInCall.keep,codeAny_func ?_⟩;obtain⟨t,M,hq⟩:=Z A outer s H vs Q E (hr.deeper _) z;have I:Inv (bh CX P w K mg base N a scope f cdv A outer s H E) [] (start N vs) H C:=Du S hr.hd c O r x;refine wpAny_mono (M [] C (start N vs) H _ I hq) (fun L s' hs=>?_) fun e s' hs=>hs;have fin:∀{d:St}{H':Hp}{v:V}{u:Value},Inv (bh CX P w K mg base N a scope f cdv A outer s H E) [] d H' s'->RelV v u->Q v H'->CE outer P w H s Q u s':=
  fun{d H' v u} J g q=>⟨v,H',J.os,J.bare,J.base,J.hok,g,q⟩
 cases L with
 |ret u=>
  obtain⟨v,d,H',J,g,q⟩:=hs;exact fin J g q
 |next=>
  obtain⟨d,H',J,q⟩:=hs;exact fin (v:=V.non) (u:=Value.none) J rfl q
 |brk=>
  obtain⟨_,_,_,q⟩:=hs;exact False.elim q
 |cont=>
  obtain⟨_,_,_,q⟩:=hs;exact False.elim q
section
variable{X:Cx}{x:Str}{p pos:Pos}{e:Expr}{es:List Expr}{t:TA}{id T:String}{r:List V->Hp->VK->Prop}
def eQ(r:List V->Hp->VK->Prop)(t:TA):TE:=fun σ H Q=>t σ H fun vs H1=>r vs H1 Q
def zh(hc:zU X (.builtin id) r)(f:Gl X x)(hm:X.mg x=none)(g:AX x=some (.builtin id))(i:PA X (e::es) t)(j:x≠"__name__":=by decide)(l:(x==("__debug__":Str))=false:=by decide)
  (he:starEach (e::es) X.env=(false,eval e X.env)::starEach es X.env:=by rfl) (a:(backTo pos (starEach es X.env)).any (·.1)=false:=by rfl):PE X (.Call (.Name x p) (e::es) [] pos) (eQ r t):=by
 intro aa s σ H Q I h;refine wpAny_Call_Name_kw (je I f hm g ?_ j l);exact PyProof.Rows.callWith_builtin1 (aL (i pos aa s σ H _ I h) fun us b ⟨vs,H1,o,c,d⟩=>hc aa b σ H1 vs us Q o c d) he a
def zj(hc:zU X (.type T) r)(f:Gl X x)(hm:X.mg x=none)(g:AX x=some (.type T))(i:PA X (e::es) t)(j:x≠"__name__":=by decide)(l:(x==("__debug__":Str))=false:=by decide)
  (he:starEach (e::es) X.env=(false,eval e X.env)::starEach es X.env:=by rfl) (a:(backTo pos (starEach es X.env)).any (·.1)=false:=by rfl):PE X (.Call (.Name x p) (e::es) [] pos) (eQ r t):=by
 intro aa s σ H Q I h;refine wpAny_Call_Name_kw (je I f hm g ?_ j l);exact PyProof.Rows.callWith_type1 (aL (i pos aa s σ H _ I h) fun us b ⟨vs,H1,o,c,d⟩=>hc aa b σ H1 vs us Q o c d) he a
end
end L2
namespace HT
open PySem PyProof.Rows
def lexLt:List Int->List Int->Bool
 |[],[]=>false
 |[],_::_=>true
 |_::_,[]=>false
 |x::xs,y::ys=>if x=y then lexLt xs ys else decide (x<y)
def zF(x y:Int)(xs ys:List Int):lexLt (x::xs) (y::ys)=if x=y then lexLt xs ys else decide (x<y):=rfl
def Dw:lexLt [] []=false:=rfl
def zW(y:Int)(ys:List Int):lexLt [] (y::ys)=true:=rfl
def Dx(x:Int)(xs:List Int):lexLt (x::xs) []=false:=rfl
def IC(A:Around)(s:Shared)(a:Int)(t:Tok)(c:Int)(u:Tok):∃e,SeqAt.EqAt A s (.int a t) (.int c u) e/\(e=true↔a=c):=
 ⟨(a==c),SeqAt.EqAt.int_int a t c u,by simp⟩
def ID(A:Around)(s:Shared)(a:Int)(t:Tok)(c:Int)(u:Tok)(prog:Program)(w:World)(E:Ω)(Q:Ω)(h:Q (.bool (decide (a<c))) s):wpAny (model prog w) A (richCompare .Lt (.int a t) (.int c u)) Q E s:=
 (PyProof.Rows.lt_int h:wpAny (model prog w) A (compareOp .Lt (.int a t) (.int c u)) Q E s)
section
open PySem.SeqAt
open PySem.AutoSeq1 (wpAny_loadPart')
open PySem.MeetsSeq PySem.MeetsSeq2 PySem.MeetsSeq3
def IE(l b:Addr)(p r:Array Value)(n n2:Nat)(dd I:Option Addr)(J L:Array (Option Value))(ns ms:List Int)(hi:IntsAre p.toList ns)(F:IntsAre r.toList ms):Meets (Builtin.«tuple.__lt__» ⟨[.ref l,.ref b],[]⟩)
   (fun _ R s=>s.heap.get? l=some {cls:=.type "tuple",dict:=dd,data:=.seq p n,slots:=J}/\s.heap.get? b=some {cls:=.type "tuple",dict:=I,data:=.seq r n2,slots:=L}/\
    R (.ok (.ret (.bool (lexLt ns ms)))) s):=
 .of_wp fun prog w A R s h=>by
  obtain⟨hp,g,d,tk,os⟩:=s;obtain⟨G,hb,h⟩:=h;have f2:=AutoSeq1.sub_tuple_tuple;have O:p.size=ns.length:=by rw[<-hi.length];simp
  have z2:r.size=ms.length:=by rw[<-F.length];simp
  wp_walk using wpAny_loadPart' G,wpAny_loadPart' hb,wpAny_forIn_list _ (fun rest b s'=>b.1=none/\s'=⟨hp,g,d,tk,os⟩/\∃(vs v:List Value)(j o:List Int),rest=vs.zip v/\
   IntsAre vs j/\IntsAre v o/\j.length+r.size=o.length+p.size/\R (.ok (.ret (.bool (lexLt j o)))) ⟨hp,g,d,tk,os⟩) _
  case turn=>
   rintro⟨y,x⟩ rest b s' ⟨i,rfl,vs,v,j,o,hz,C,z,f,hR⟩;cases C with
   |nil=>rw[List.zip_nil_left] at hz;cases hz
   |cons a t hvi'=>
    cases z with
    |nil=>rw[List.zip_nil_right] at hz;cases hz
    |cons c u hwi'=>
     rw[List.zip_cons_cons] at hz;injection hz with hyx bL
     injection hyx with hy hx
     subst hy hx;rw[zF] at hR;simp only[Au] at f;obtain⟨e,he,D⟩:=IC A.in1 ⟨hp,g,d,tk,os⟩ a t c u;refine Aa (he prog w _ _ ?_);cases e with
     |true=>
      rw[if_pos (D.mp rfl)] at hR
      wp_walk
      exact⟨rfl,rfl,_,_,_,_,bL,hvi',hwi',ω,hR⟩
     |false=>
      rw[if_neg (fun q=>absurd (D.mpr q) Aq)] at hR;have H:=ID A.in1 ⟨hp,g,d,tk,os⟩ a t c u prog w
      wp_walk using H
      exact⟨_,rfl,by simpa using hR⟩
  case fin=>
   rintro⟨M,N⟩ s' ⟨i,rfl,vs,v,j,o,hz,C,z,f,hR⟩;simp only at i;subst i;have E:lexLt j o=decide (p.size<r.size):=by
    cases C with
    |nil=>
     cases z with
     |nil=>
      simp only[List.length_nil] at f;rw[Dw];exact(decide_eq_false ω).symm
     |cons c u hw=>
      simp only[List.length_nil,Au] at f;rw[zW];exact(decide_eq_true ω).symm
    |cons a t E=>
     cases z with
     |nil=>
      simp only[List.length_nil,Au] at f;rw[Dx];exact(decide_eq_false ω).symm
     |cons c u hw=>
      rw[List.zip_cons_cons] at hz;cases hz
   rw[E] at hR
   wp_walk
   exact⟨_,rfl,by simpa[Builtin.Tuple.tupleCompareSizes] using hR⟩
  case h=>
   exact⟨rfl,rfl,p.toList,r.toList,ns,ms,rfl,hi,F,ω,h⟩
end
section
variable{prog:Program}{w:World}{A:Around}{E:Ω}{s:Shared}
def IF{l b:Addr}{a c:Array Value}{ns ms:List Int}{Q:Ω}(o:IsTup s.heap l a)(hb:IsTup s.heap b c)(hi:IntsAre a.toList ns)(p:IntsAre c.toList ms)(hu:A.units<cLine)(h:Q (.bool (lexLt ns ms)) s):wpAny (model prog w) A (compareOp .Lt (.ref l) (.ref b)) Q E s:=by
 obtain⟨⟨cls,dd,data,g⟩,d,hc,n,hd⟩:=id o;obtain⟨⟨q,i,data2,j⟩,dl,e,n2,f⟩:=id hb;simp only at hc hd e f;subst hc hd e f;exact richCompare_meets_room (op:=.Lt) ⟨_,d,rfl⟩ ⟨_,dl,rfl⟩ PySem.F.slot_tuple_lt PySem.F.entry_tuple_lt (PySem.F.args_tuple_lt_2 _ _) (IE l b a c n n2 dd i g j ns ms hi p)
  ⟨d,dl,show Value.bool (lexLt ns ms)≠Value.notImplemented/\Q (.bool (lexLt ns ms)) s from⟨(fun x=>nomatch x),h⟩⟩ hu
def IG{t b:Addr}{vs a:List Value}{Q:Ω}(l:IsTup s.heap t vs.toArray)(hb:IsTup s.heap b a.toArray)(j:vs≠[])(h1:a=[]->Q (.ref t) s)(h2:a≠[]->Q (.ref s⁻¹) {s with heap:=s.heap.push {cls:=.type "tuple",data:=.seq (vs++a).toArray}})(hsz:vs.length+a.length<=sizeLine):wpAny (model prog w) A (binaryOp .Add (.ref t) (.ref b)) Q E s:=by
 obtain⟨⟨cls,dd,data,d⟩,c,hc,n,hd⟩:=id l;obtain⟨⟨o,f,data2,g⟩,dl,h,n2,i⟩:=id hb;simp only at hc hd h i;subst hc hd h i;have e:vs.toArray++a.toArray=(vs++a).toArray:=by simp
 by_cases hw:a=[]
 ·exact concat_meets ⟨_,c,rfl⟩ ⟨_,dl,rfl⟩ noFill_tuple_add seq_tuple_add PySem.F.slot_tuple_add PySem.F.entry_tuple_add (PySem.F.args_tuple_add_2 _ _)
   (tuple_addW1 t b vs.toArray a.toArray n n2 dd f d g (by simpa using j) (by simp[hw])) ⟨c,dl,h1 hw⟩
 ·refine concat_meets ⟨_,c,rfl⟩ ⟨_,dl,rfl⟩ noFill_tuple_add seq_tuple_add PySem.F.slot_tuple_add PySem.F.entry_tuple_add (PySem.F.args_tuple_add_2 _ _)
   (tuple_addW2 t b vs.toArray a.toArray n n2 dd f d g (by simpa using j) (by simpa using hw) (by rw[Aj,Aj];exact hsz)) ⟨c,dl,?_⟩
  rw[e];exact h2 hw
def sIx(n d:Nat):Option Int->Nat
 |none=>d
 |some v=>if v<0 then(v+(n:Int)).toNat else min v.toNat n
def qO(n d:Nat):sIx n d none=d:=rfl
def nj(n d k:Nat):sIx n d (some (k:Int))=min k n:=by
 show(if(k:Int)<0 then((k:Int)+(n:Int)).toNat else min (k:Int).toNat n)=min k n;rw[if_neg ω,Bg]
def IH(n d:Nat)(hd:d<=n)(o:Option Int):sIx n d o<=n:=by
 cases o with
 |none=>exact hd
 |some v=>
  show(if v<0 then(v+(n:Int)).toNat else min v.toNat n)<=n
  by_cases a:v<0
  ·rw[if_pos a];omega
  ·rw[if_neg a];exact Nat.min_le_right _ _
def Dy(v:Int)(n d:Nat):(if v<0 then max (v+(n:Int)) 0 else min v (n:Int))=((sIx n d (some v):Nat):Int):=by
 show(if v<0 then max (v+(n:Int)) 0 else min v (n:Int))=(((if v<0 then(v+(n:Int)).toNat else min v.toNat n):Nat):Int)
 by_cases a:v<0
 ·simp only[if_pos a];omega
 ·simp only[if_neg a];omega
def II(lo hi:Option Int)(n:Nat):Builtin.Slice.sliceAdjust lo hi 1 (n:Int)=(((sIx n 0 lo:Nat):Int),((sIx n n hi:Nat):Int)):=by
 have h1:¬((1:Int)<0):=ω
 unfold Builtin.Slice.sliceAdjust;simp only[h1,if_false];refine Prod.ext ?_ ?_
 ·cases lo with
  |none=>rfl
  |some v=>exact Dy v n 0
 ·cases hi with
  |none=>rfl
  |some v=>exact Dy v n n
def IJ(i j:Nat):Builtin.Slice.slicePlaces (i:Int) (j:Int) 1=j-i:=by
 unfold Builtin.Slice.slicePlaces;have h1:(1:Int)>0:=ω
 simp only[h1,if_true,Int.ediv_one];split<;>omega
def Dz{v:Value}{o:Option Int}{Q:Option Int->Shared->Prop}(p:IsPart v o)(h:Q o s):wpAny (model prog w) A (Builtin.Slice.slicePartIndex v) Q E s:=by
 cases p with
 |none=>exact slicePart_none h
 |int i t=>exact slicePart_int h
def DA{e:Addr}{c d:Value}{lo hi:Option Int}{n:Nat}{Q:Int×Int×Nat->Shared->Prop}(hs:s.heap.IsSliceOf e c d .none)(f:IsPart c lo)(g:IsPart d hi)(h:Q (((sIx n 0 lo:Nat):Int),1,sIx n n hi-sIx n 0 lo) s):wpAny (model prog w) A (Builtin.Slice.sliceApplied (.ref e) (pure (n:Int))) Q E s:=by
 obtain⟨os,a,i,b⟩:=id hs;unfold Builtin.Slice.sliceApplied Builtin.Slice.sliceFields;refine Aa (Aa (AT a b (x:=c) rfl (Aa (AT a b (x:=d) rfl (Aa (AT a b (x:=.none) rfl (Ac ?_)))))));refine Aa (slicePart_none ?_);show wpAny _ _ (if((1:Int)==0)=true then _ else _) _ _ s;rw[if_neg ξ];refine Aa (Dz f (Aa (Dz g (Aa (Ac ?_)))));show wpAny _ _ (match Builtin.Slice.sliceAdjust lo hi 1 (n:Int) with|(lo,hi)=>pure (lo,(1:Int),Builtin.Slice.slicePlaces lo hi 1)) _ _ s;rw[II lo hi n];show wpAny _ _ (pure (((sIx n 0 lo:Nat):Int),(1:Int),Builtin.Slice.slicePlaces ((sIx n 0 lo:Nat):Int) ((sIx n n hi:Nat):Int) 1)) _ _ s;rw[IJ];exact Ac h
def IK(xs:Array Value)(i k:Nat):((Ba k).filterMap fun(m:Nat)=>xs[((i:Int)+(m:Int)*1).toNat]?).toArray=((xs.toList.drop i).take k).toArray:=by
 have e:(fun(m:Nat)=>xs[((i:Int)+(m:Int)*1).toNat]?)=fun m=>xs[i+m]?:=by
  funext m
  have:((i:Int)+(m:Int)*1).toNat=i+m:=ω
  rw[this]
 rw[e];have:=pick_run xs i k;rw[List.filterMap_map] at this;have e2:((fun x=>xs[x]?) ∘ fun x=>i+x)=fun m=>xs[i+m]?:=rfl;rw[e2] at this;rw[this]
def IL{t e:Addr}{a:Array Value}{f g:Value}{lo hi:Option Int}{Q:Ω}(c:IsTup s.heap t a)(hs:s.heap.IsSliceOf e f g .none)(o:IsPart f lo)(p:IsPart g hi)(hw:¬(sIx a.size 0 lo=0/\sIx a.size a.size hi=a.size))(h:Q (.ref s⁻¹) {s with heap:=s.heap.push {cls:=.type "tuple",data:=.seq ((a.toList.drop (sIx a.size 0 lo)).take (sIx a.size a.size hi-sIx a.size 0 lo)).toArray}})(hsz:a.size<=sizeLine):wpAny (model prog w) A (getItem (.ref t) (.ref e)) Q E s:=by
 have b:sizeOk (.seq ((a.toList.drop (sIx a.size 0 lo)).take (sIx a.size a.size hi-sIx a.size 0 lo)).toArray):=by
  show((a.toList.drop (sIx a.size 0 lo)).take (sIx a.size a.size hi-sIx a.size 0 lo)).toArray.size<=sizeLine;rw[Aj,AG,List.length_drop,Aw];omega
 have u:sIx a.size a.size hi<=a.size:=IH _ _ (Ag _) hi;obtain⟨os,i,j,r⟩:=id hs;have l:s.TypeIs (.ref e) "slice":=⟨os,i,j⟩;unfold getItem
 try with_reducible refine AA ?_
 first|refine Aa (Ac ?_)|skip
 refine Aa (wpAny_sequenceKey c.typeIs ξ ?_);refine Aa (AS (name:=Bm "__getitem__") c.typeIs PyProof.Rows.slot_tuple_getitem
  (AC PyProof.Rows.slot_tuple_getitem c.typeIs entry_tuple_getitem ?_ (args_tuple_getitem _ _)))
 show wpAny _ _ (Builtin.Tuple.tupleItemsOf (.ref t) >>= _) _ _ s;refine Aa (tupleItemsOf_ c ?_);refine Aa (wpAny_typeOf l ?_);rw[if_pos ξ];refine Aa (DA hs o p ?_);have d:¬((((sIx a.size 0 lo:Nat):Int)==0&&(1:Int)==1&&(sIx a.size a.size hi-sIx a.size 0 lo)==a.size)=true):=by
  intro q;rw[AN,AN] at q;have v:((sIx a.size 0 lo:Nat):Int)=0:=eq_of_beq q.1.1;have x:sIx a.size a.size hi-sIx a.size 0 lo=a.size:=eq_of_beq q.2;exact hw ⟨ω,ω⟩
 show wpAny _ _ (if(((sIx a.size 0 lo:Nat):Int)==0&&(1:Int)==1&&(sIx a.size a.size hi-sIx a.size 0 lo)==a.size)=true then _ else _) _ _ s;rw[if_neg d,IK]
 first
  |exact Aa (m:=Builtin.Tuple.tupleExact _) (AF (Ac ⟨_,rfl,Ac h⟩) b)
  |exact Aa (m:=Builtin.Tuple.tupleExact _) (AF (Aa (Ac (Ac ⟨_,rfl,Ac h⟩))) b)
  |exact Aa (Aa (m:=Builtin.Tuple.tupleExact _) (AF (Ac (Ac ⟨_,rfl,Ac h⟩)) b))
  |exact Aa (Aa (m:=Builtin.Tuple.tupleExact _) (AF (Ac ⟨_,rfl,Ac h⟩) b))
end
end HT
namespace L2
open PySem PySem.Spec PyProof.Rows
abbrev TO:=St->Hp->(Option Int->Hp->Prop)->Prop
def PO(X:Cx)(e:Option Expr)(t:TO):Prop:=
 ∀(aa:Ψ)(s:Shared)(σ:St)(H:Hp)(Q:Option Int->Hp->Prop),Inv X aa σ H s->t σ H Q->
  wpAny (model X.prog X.w) X.A (evalPart e X.env) (fun u s'=>∃o H',Inv X aa σ H' s'/\IsPart u o/\Q o H') X.xe s
def IM:TO:=fun _ H Q=>Q none H
def IN(t:TE):TO:=fun σ H Q=>t σ H fun x H1=>∃i,x=.int i/\Q (some i) H1
def intsAre_of{ns:List Int}:∀{us:List Value},Vals (ns.map V.int) us->IntsAre us ns:=by
 induction ns with
 |nil=>intro us r;rw[List.map_nil] at r;cases r;exact .nil
 |cons n ns ih=>
  intro us r;rw[Ax] at r;cases r with
  |cons r1 r2=>
   obtain⟨t,e⟩:=r1;subst e;exact .cons n t (ih r2)
section
variable{X:Cx}{e:Expr}{te:TE}{lo hi:Option Expr}{tl th:TO}{pos p2:Pos}
def jR:PO X none IM:=by
 intro aa s σ H Q I h;rw[evalPart_none];exact Ac ⟨none,H,I,.none,h⟩
def jS(h:PE X e te):PO X (some e) (IN te):=by
 intro aa s σ H Q I hw;rw[evalPart_some];refine aL (h aa s σ H _ I hw) fun u d ⟨x,H1,c,a,b⟩=>?_;obtain⟨i,rfl,q⟩:=b;obtain⟨t,rfl⟩:=a;exact⟨some i,H1,c,.int i t,q⟩
def qP(X:Cx)(r:V->Option Int->Option Int->Hp->VK->Prop):Prop:=
 ∀(aa:Ψ)(s:Shared)(σ:St)(H:Hp)(x:V)(v a b:Value)(lo hi:Option Int)(c:Addr)(Q:VK),Inv X aa σ H s->RelV x v->s.heap.IsSliceOf c a b .none->IsPart a lo->IsPart b hi->r x lo hi H Q->
  ∃T id,typeLookup (.type T) "__getitem__"=pure (some (.builtin id))/\s.TypeIs v T/\wpAny (model X.prog X.w) X.A (getItem v (.ref c)) (EP X aa σ Q) X.xe s
def IP(r:V->Option Int->Option Int->Hp->VK->Prop)(te:TE)(tl th:TO):TE:=fun σ H Q=>te σ H fun x H1=>tl σ H1 fun l H2=>th σ H2 fun u a=>r x l u a Q
def jT{r:V->Option Int->Option Int->Hp->VK->Prop}(hr:qP X r)(he:PE X e te)(F:PO X lo tl)(hu:PO X hi th):PE X (.Subscript e (.Slice lo hi none p2) pos) (IP r te tl th):=by
 intro aa s σ H Q I h;refine Subscript_ (aL (he aa s σ H _ I h) fun v g ⟨x,H1,G,i,j⟩=>?_);refine wpAny_Slice (aL (F aa g σ H1 _ G j) fun c o ⟨l,H2,J,p,y⟩=>aL (hu aa o σ H2 _ J y) fun d a ⟨u,f,I3,z,C⟩=>?_);rw[evalPart_none];refine Ac ?_;have L:Inv X aa σ f {a with heap:=a.heap.push {cls:=.type "slice",data:=.fields #[c,d,.none]}}:=I3.kept (t':=a.toks) fun b ob q=>Ad _ q;obtain⟨T,id,hT,D,E⟩:=hr aa {a with heap:=a.heap.push {cls:=.type "slice",data:=.fields #[c,d,.none]}} σ f x v c d l u a⁻¹ Q L i (Heap.IsSliceOf.new ..) p z C;show wpAny (model X.prog X.w) X.A (subscriptTail e (.Slice lo hi none p2) v (.ref a⁻¹)) (EP X aa σ Q) X.xe {a with heap:=a.heap.push {cls:=.type "slice",data:=.fields #[c,d,.none]}};exact tail_any (ops:=[.ref a⁻¹,v]) D hT E (by with_unfolding_all rfl)
def br(xs:List V)(lo hi:Option Int):List V:=(xs.drop (HT.sIx xs.length 0 lo)).take (HT.sIx xs.length xs.length hi-HT.sIx xs.length 0 lo)
def DB(xs:List V)(lo hi:Option Int):(br xs lo hi).length<=xs.length:=by
 unfold br;rw[AG,List.length_drop];omega
def wq(K:Ae):V->Option Int->Option Int->Hp->VK->Prop:=fun x lo hi H Q=>∃a xs,x=.ref a/\SqT K H a xs/\
 ¬(HT.sIx xs.length 0 lo=0/\HT.sIx xs.length xs.length hi=xs.length)/\∀p,H p=none->Q (.ref p) (upd H p (.tup (br xs lo hi)))
def DE:qP X (wq X.K):=by
 intro aa s σ H x v j l lo hi p Q I e hs f g h;obtain⟨a,xs,rfl,hx,hw,q⟩:=h;cases e;obtain⟨i,r,d,hz⟩:=I.tuple hx;have c:i.toArray.size=xs.length:=by rw[Aj];exact r.length.symm
 refine⟨"tuple",_,PyProof.Rows.slot_tuple_getitem.lookup,d.typeIs,?_⟩;refine HT.IL d hs f g (by rw[c];exact hw) ?_ (by rw[c];exact hz);rw[c];refine⟨.ref s⁻¹,_,I.laid (t':=s.toks) (o:=.tup (br xs lo hi)) (fun b ob q=>Ad _ q) (Ag _) ?_,rfl,q _ (I.hok.fresh (Ag _))⟩;exact⟨AO (DB xs lo hi) hz,_,(r.drop (HT.sIx xs.length 0 lo)).take (HT.sIx xs.length xs.length hi-HT.sIx xs.length 0 lo),IsTup.new _ _⟩
def Vals.nil_iff{xs:List V}{us:List Value}(r:Vals xs us):us=[]↔xs=[]:=by
 cases r with
 |nil=>simp
 |cons _ _=>simp
end
def iC(n:Nat)(i:Int):Option Nat:=if 0<=i then(if i<n then some i.toNat else none) else if -(n:Int)<=i then some (i+n).toNat else none
def atI{a:Type}(xs:List a)(i:Int):Option a:=(iC xs.length i).bind fun j=>xs[j]?
def DF{n:Nat}{i:Int}{j:Nat}(h:iC n i=some j):seqIndex? i n=some j/\j<n/\-(n:Int)<=i/\i<n:=by
 unfold iC at h
 by_cases a:0<=i
 ·rw[if_pos a] at h
  by_cases h1:i<n
  ·rw[if_pos h1] at h
   have e:i.toNat=j:=An h;exact⟨by rw[seqIndex_of a h1,e],ω,ω,h1⟩
  ·rw[if_neg h1] at h;cases h
 ·rw[if_neg a] at h
  by_cases h1:-(n:Int)<=i
  ·rw[if_pos h1] at h
   have e:(i+n).toNat=j:=An h;exact⟨by rw[seqIndex_neg ω h1,e],ω,h1,ω⟩
  ·rw[if_neg h1] at h;cases h
def DG{a:Type}{xs:List a}{i:Int}{v:a}(h:atI xs i=some v):∃j,seqIndex? i xs.length=some j/\xs[j]?=some v/\j<xs.length/\-(xs.length:Int)<=i/\i<xs.length:=by
 unfold atI at h;cases e:iC xs.length i with
 |none=>rw[e] at h;cases h
 |some j=>
  rw[e] at h;obtain⟨h1,h2,b,c⟩:=DF e;exact⟨j,h1,h,h2,b,c⟩
def zu{a:Type}{xs:List a}{j:Nat}{v:a}(h:xs[j]?=some v):atI xs (j:Int)=some v:=by
 have b:j<xs.length:=(List.getElem?_eq_some_iff.mp h).1;have e:iC xs.length (j:Int)=some j:=by
  unfold iC;rw[if_pos ω,if_pos ω];simp
 unfold atI;rw[e];exact h
def DH{a:Type}(xs:List a)(v:a):atI (xs++[v]) (-1)=some v:=by
 have b:(xs++[v]).length=xs.length+1:=by simp
 have e:iC (xs++[v]).length (-1)=some xs.length:=by
  unfold iC;rw[b,if_neg ξ,if_pos ω]
  congr 1
  omega
 unfold atI;rw[e];show(xs++[v])[xs.length]?=some v;simp
def IQ(b:Expr):Prop:=∀o i,subscripted b false o i=operate [o,i] (getItem o i)
def wu(X:Cx)(r:R2):Prop:=
 ∀(aP slice:Expr)(aa:Ψ)(s:Shared)(σ:St)(H:Hp)(x y:V)(v u:Value)(Q:VK),Inv X aa σ H s->RelV x v->RelV y u->r x y H Q->
  subscripted slice false v u=operate [v,u] (getItem v u)->wpAny (model X.prog X.w) X.A (subscriptTail aP slice v u) (EP X aa σ Q) X.xe s
def qQ(X:Cx)(id:String)(r:V->List V->Hp->VK->Prop):Prop:=
 ∀(aa:Ψ)(s:Shared)(σ:St)(H:Hp)(x:V)(xs:List V)(v:Value)(us:List Value)(Q:VK),Inv X aa σ H s->RelV x v->Vals xs us->r x xs H Q->
  wpAny (model X.prog X.w) X.A (call (.builtin id) (v::us)) (EP X aa σ Q) X.xe s
section
variable{X:Cx}{a b:Expr}{ta tb:TE}{pos:Pos}
def zI{r:R2}(hr:wu X r)(f:PE X a ta)(hb:PE X b tb)(hs:IQ b):PE X (.Subscript a b pos) (cb r ta tb):=by
 intro aa s σ H Q I h;exact Subscript_ (jO f hb I h fun v u c x y H2 g d e q=>hr a b aa c σ H2 x y v u Q g d e q (hs _ _))
def jU(K:Ae):R2:=fun x y H Q=>∃p xs i v,x=.ref p/\y=.int i/\SqL K H p xs/\atI xs i=some v/\Q v H
def dD(K:Ae):R2:=fun x y H Q=>∃p xs i v,x=.ref p/\y=.int i/\SqT K H p xs/\atI xs i=some v/\Q v H
def zC:wu X (jU X.K):=by
 intro aP slice aa s σ H x y v u Q I e f h hs;obtain⟨p,xs,i,z,rfl,rfl,hq,he,q⟩:=h;cases e;obtain⟨t,rfl⟩:=f;obtain⟨g,r,a,hz⟩:=I.list hq;obtain⟨j,h1,h2,D,l,o⟩:=DG he;obtain⟨w,c,A⟩:=r.get h2;have C:=r.length;have E:=dj;have fin:EP X aa σ Q w s:=⟨z,H,I,A,q⟩
 by_cases d:0<=i
 ·have b:i.toNat=j:=by
   rw[seqIndex_of d o] at h1;exact An h1
  exact item_listR a.isList d ω (by rw[b];simpa using c) fin hs
 ·have b:(i+(g.toArray.size:Int)).toNat=j:=by
   rw[seqIndex_neg ω l] at h1;rw[Aj,<-C];exact An h1
  exact subscriptTail_builtinR (x:=w) a.isList.typeIs slot_list_getitem.lookup
   (wpAny_getItem_list_neg (Q:=fun r s'=>r=w/\EP X aa σ Q r s') a.isList ω (by rw[Aj]<;>omega) ω (by rw[b];simpa using c) ⟨rfl,fin⟩) hs
def eR:wu X (dD X.K):=by
 intro aP slice aa s σ H x y v u Q I b c h hs;obtain⟨p,xs,i,z,rfl,rfl,hq,he,q⟩:=h;cases b;obtain⟨t,rfl⟩:=c;obtain⟨g,r,a,hz⟩:=I.tuple hq;obtain⟨j,h1,h2,l,o,A⟩:=DG he;obtain⟨w,d,e⟩:=r.get h2;have f:=r.length;have C:=dj;have fin:EP X aa σ Q w s:=⟨z,H,I,e,q⟩;exact subscriptTail_builtinR (x:=w) a.typeIs slot_tuple_getitem.lookup
  (getItem_tuple (j:=j) (Q:=fun r s'=>r=w/\EP X aa σ Q r s') a ω ω (by rw[Aj,<-f];exact h1) (by simpa using d) ⟨rfl,fin⟩) hs
def IR(a:List Value)(n j:Nat)(u:Value):AH (·.setIfInBounds j u) {cls:=.type "list",data:=.seq a.toArray n}={cls:=.type "list",data:=.seq (a.set j u).toArray n}:=by
 simp[AH]
def Inv.lst{aa:Ψ}{σ:St}{H:Hp}{s:Shared}{p:Addr}{xs:List V}(I:Inv X aa σ H s)(h:H p=some (.lst xs)):∃(a:List Value)(n:Nat),Vals xs a/\s.heap.get? p=some {cls:=.type "list",data:=.seq a.toArray n}/\xs.length<=sizeLine:=by
 obtain⟨z,a,n,r,e⟩:=I.hok p _ h;exact⟨a,n,r,e,z⟩
def Inv.lstUpd{aa:Ψ}{σ:St}{H:Hp}{s:Shared}{p:Addr}{xs ys:List V}{c its':List Value}{n a:Nat}{f:Obj->Obj}(I:Inv X aa σ H s)(h:H p=some (.lst xs))(d:s.heap.get? p=some {cls:=.type "list",data:=.seq c.toArray n})(hf:f {cls:=.type "list",data:=.seq c.toArray n}={cls:=.type "list",data:=.seq its'.toArray a})(r:Vals ys its')(hz:ys.length<=sizeLine)(t:Nat):Inv X aa σ (upd H p (.lst ys)) {s with heap:=s.heap.update p f,toks:=t}:=by
 have e:(s.heap.update p f).get? p=some {cls:=.type "list",data:=.seq its'.toArray a}:=by
  rw[A5 f d (by rw[hf]<;>rfl),hf]
 refine I.write (x:=p) (e:=p) (by rw[h];trivial) (.inl rfl) (fun b u hb q=>(Heap.get?_update_other _ _ (Ne.symm hb)).trans q) ⟨_,e⟩ ?_;exact⟨hz,its',a,r,e⟩
def IS:V->V->V->Hp->(Hp->Prop)->Prop:=fun o i v H Q=>∃p xs k j,o=.ref p/\i=.int k/\H p=some (.lst xs)/\iC xs.length k=some j/\Q (upd H p (.lst (xs.set j v)))
def set_list:mN X IS:=by
 intro aa s σ H o i v z iv u Q I l w x h;obtain⟨p,xs,k,j,rfl,rfl,hp,y,q⟩:=h;cases l;obtain⟨t,rfl⟩:=w;obtain⟨c,n,r,a,hz⟩:=I.lst hp;obtain⟨h1,h2,d,e⟩:=DF y;have b:=r.length;have A:=dj;have g:Inv X aa σ (upd H p (.lst (xs.set j v))) {s with heap:=s.heap.update p (AH (·.setIfInBounds j u))}:=
  I.lstUpd hp a (IR c n j u) (r.set x j) (by rw[List.length_set];exact hz) s.toks
 by_cases f:0<=k
 ·have hk:k.toNat=j:=by
   rw[seqIndex_of f e] at h1;exact An h1
  exact PySem.W.ki_setAt a f ω (by rw[Aj,<-b];exact e) (by rw[hk];exact⟨_,g,q⟩)
 ·have hk:(k+(c.toArray.size:Int)).toNat=j:=by
   rw[seqIndex_neg ω d] at h1;rw[Aj,<-b];exact An h1
  exact PySem.W.ki_setBack a ω (by rw[Aj,<-b];exact d) ω (by rw[hk];exact⟨_,g,q⟩)
def IT(lo hi:Option Int)(n:Nat):(sliceBounds lo hi none n).1=((HT.sIx n 0 lo:Nat):Int)/\(sliceBounds lo hi none n).2.1=((HT.sIx n n hi:Nat):Int)/\(sliceBounds lo hi none n).2.2=1:=by
 refine⟨?_,?_,rfl⟩
 ·cases lo with
  |none=>simp[sliceBounds,HT.sIx]
  |some i=>
   simp only[sliceBounds,HT.sIx,Option.getD_none,show(1:Int)>0 from ξ,if_true]
   by_cases h:i<0
   ·simp only[h,if_true]<;>omega
   ·simp only[h,if_false]<;>omega
 ·cases hi with
  |none=>simp[sliceBounds,HT.sIx]
  |some i=>
   simp only[sliceBounds,HT.sIx,Option.getD_none,show(1:Int)>0 from ξ,if_true]
   by_cases h:i<0
   ·simp only[h,if_true]<;>omega
   ·simp only[h,if_false]<;>omega
def IU(a:List Value)(lo hi:Option Int):slicePick a.toArray lo hi none=((a.drop (HT.sIx a.length 0 lo)).take (HT.sIx a.length a.length hi-HT.sIx a.length 0 lo)).toArray:=by
 obtain⟨h1,h2,b⟩:=IT lo hi a.toArray.size;unfold slicePick;rw[h1,h2,b];simp only[sliceRange_one,pick_run,Aj]<;>rfl
def nk(K:Ae):V->Option Int->Option Int->Hp->VK->Prop:=fun x lo hi H Q=>∃a xs,x=.ref a/\SqL K H a xs/\∀p,H p=none->Q (.ref p) (upd H p (.lst (br xs lo hi)))
def qR:qP X (nk X.K):=by
 intro aa s σ H x v i j lo hi l Q I e hs f g h;obtain⟨a,xs,rfl,hx,q⟩:=h;cases e;obtain⟨p,r,d,hz⟩:=I.list hx;have c:=r.length;refine⟨"list",_,slot_list_getitem.lookup,d.isList.typeIs,?_⟩;refine wpAny_getItem_list_slice d.isList hs f g .none (by simp) ?_ (by rw[Aj]<;>omega);rw[IU,<-c];refine⟨.ref s⁻¹,_,I.laid (t':=s.toks) (o:=.lst (br xs lo hi)) (fun b ob q=>Ad _ q) (Ag _) ?_,rfl,q _ (I.hok.fresh (Ag _))⟩;exact⟨AO (DB xs lo hi) hz,_,0,(r.drop (HT.sIx xs.length 0 lo)).take (HT.sIx xs.length xs.length hi-HT.sIx xs.length 0 lo),Al _ rfl⟩
def eE:V->Bool
 |.non=>true
 |.bl _=>true
 |.int _=>true
 |.str _=>true
 |_=>false
def eG:V->V->Bool
 |.non,.non=>true
 |.bl a,.bl b=>a==b
 |.bl a,.int b=>(if a then 1 else 0)==b
 |.int a,.bl b=>a==(if b then 1 else 0)
 |.int a,.int b=>a==b
 |.str a,.str b=>a==b
 |_,_=>false
def IV{A:Around}{s:Shared}{y x:V}{u v:Value}(d:RelV y u)(c:RelV x v)(e:eE y=true)(fx:eE x=true):SeqAt.EqAt A s u v (eG y x):=by
 cases y with
 |non=>
  cases d;cases x with
  |non=>cases c;exact SeqAt.EqAt.same _
  |bl b=>cases c;exact SeqAt.EqAt.none_bool b
  |int b=>obtain⟨t,rfl⟩:=c;exact SeqAt.EqAt.none_int b t
  |str b=>obtain⟨t,rfl⟩:=c;exact SeqAt.EqAt.none_str b t
  |_=>exact absurd (show false=true from fx) Aq
 |bl a=>
  cases d;cases x with
  |non=>cases c;exact SeqAt.EqAt.bool_none a
  |bl b=>cases c;exact SeqAt.EqAt.bool_bool a b
  |int b=>obtain⟨t,rfl⟩:=c;exact SeqAt.EqAt.bool_int a b t
  |str b=>obtain⟨t,rfl⟩:=c;exact SeqAt.EqAt.bool_str a b t
  |_=>exact absurd (show false=true from fx) Aq
 |int a=>
  obtain⟨t',rfl⟩:=d;cases x with
  |non=>cases c;exact SeqAt.EqAt.int_none a t'
  |bl b=>cases c;exact SeqAt.EqAt.int_bool a t' b
  |int b=>obtain⟨t,rfl⟩:=c;exact SeqAt.EqAt.int_int a t' b t
  |str b=>obtain⟨t,rfl⟩:=c;exact SeqAt.EqAt.int_str a t' b t
  |_=>exact absurd (show false=true from fx) Aq
 |str a=>
  obtain⟨t',rfl⟩:=d;cases x with
  |non=>cases c;exact SeqAt.EqAt.str_none a t'
  |bl b=>cases c;exact SeqAt.EqAt.str_bool a t' b
  |int b=>obtain⟨t,rfl⟩:=c;exact SeqAt.EqAt.str_int a t' b t
  |str b=>obtain⟨t,rfl⟩:=c;exact SeqAt.EqAt.str_str a t' b t
  |_=>exact absurd (show false=true from fx) Aq
 |_=>exact absurd (show false=true from e) Aq
def d0(x:V)(u:Value):Bool:=match u with
 |.none=>eG .non x
 |.bool b=>eG (.bl b) x
 |.int i _=>eG (.int i) x
 |.str z _=>eG (.str z) x
 |_=>false
def qT{x y:V}{u:Value}(r:RelV y u)(f:eE y=true):d0 x u=eG y x:=by
 cases y with
 |non=>cases r;rfl
 |bl b=>cases r;rfl
 |int i=>obtain⟨t,rfl⟩:=r;rfl
 |str z=>obtain⟨t,rfl⟩:=r;rfl
 |_=>exact absurd (show false=true from f) Aq
def wy{x:V}:∀{xs:List V}{us:List Value},Vals xs us->xs.all eE=true->us.any (d0 x)=xs.any fun y=>eG y x
 |_,_,.nil,_=>rfl
 |y::xs,u::us,.cons r t,f=>by
  rw[List.all_cons,AN] at f;rw[List.any_cons,List.any_cons,qT r f.1,wy t f.2]
def nq{A:Around}{s:Shared}{x:V}{v:Value}(a:RelV x v)(fx:eE x=true):∀{xs:List V}{us:List Value},Vals xs us->xs.all eE=true->∀u∈us,SeqAt.EqAt A s u v (d0 x u)
 |_,_,.nil,_=>fun u hu=>by cases hu
 |y::xs,u::us,.cons r t,f=>fun b hu=>by
  rw[List.all_cons,AN] at f;rcases List.mem_cons.mp hu with rfl|hu
  ·rw[qT r f.1];exact IV r a f.1 fx
  ·exact nq a fx t f.2 b hu
def DI(x:V)(xs:List V):Bool:=xs.any fun y=>eG y x
def wE(K:Ae)(neg:Bool):R2:=fun x y H Q=>∃p xs,y=.ref p/\(SqL K H p xs\/SqT K H p xs)/\eE x=true/\xs.all eE=true/\Q (.bl (if neg then !DI x xs else DI x xs)) H
def IW:bU X (compareOp .In) (wE X.K false):=by
 intro aa s σ H x y v u Q I c d h;obtain⟨p,xs,rfl,hq,fx,fs,q⟩:=h;cases d;rcases hq with hq|hq
 ·obtain⟨a,r,b,hz⟩:=I.list hq
  refine SeqAt.in_listAt (d0 x) b.isList (fun w hw=>nq c fx r fs w (by simpa using hw)) ⟨.bl _,H,I,rfl,?_⟩;rw[show a.toArray.any (d0 x)=a.any (d0 x) by simp,wy r fs];exact q
 ·obtain⟨a,r,b,hz⟩:=I.tuple hq
  refine SeqAt.in_tupleAt (d0 x) b (fun w hw=>nq c fx r fs w (by simpa using hw)) ⟨.bl _,H,I,rfl,?_⟩;rw[show a.toArray.any (d0 x)=a.any (d0 x) by simp,wy r fs];exact q
def zi:zU X (.builtin "len") (fun xs H Q=>∃p ys,xs=[.ref p]/\(SqL X.K H p ys\/SqT X.K H p ys)/\Q (.int ys.length) H):=by
 intro aa s σ H xs us Q I r h;obtain⟨p,ys,rfl,hq,q⟩:=h;obtain⟨u,rfl,d⟩:=vals1 r;cases d;have f:=dj;rcases hq with hq|hq
 ·obtain⟨e,b,c,hz⟩:=I.list hq
  have a:=b.length;exact Calls.call_len_list c.isList (by simp only[Aj]<;>omega) ⟨.int ys.length,H,I.tok _,⟨s.toks+1,by rw[Aj,a]⟩,q⟩
 ·obtain⟨e,b,c,hz⟩:=I.tuple hq
  have a:=b.length;exact len_tuple c (by simp only[Aj]<;>omega) ⟨.int ys.length,H,I.tok _,⟨s.toks+1,by rw[Aj,a]⟩,q⟩
def nr:zU X (.type "list") (fun xs H Q=>∃p ys,xs=[.ref p]/\(SqL X.K H p ys\/SqT X.K H p ys)/\∀l,H l=none->Q (.ref l) (upd H l (.lst ys))):=by
 intro aa s σ H xs us Q I r h;obtain⟨p,ys,rfl,hq,q⟩:=h;obtain⟨u,rfl,v⟩:=vals1 r;cases v;have fin:∀(a:List Value),Vals ys a->ys.length<=sizeLine->∀(h':Heap)(d:Nat),(∀b o',s.heap.get? b=some o'->h'.get? b=some o')->
   h'.get? s⁻¹=some {cls:=.type "list",dict:=none,data:=.seq a.toArray d,slots:=#[]}->EP X aa σ Q (.ref s⁻¹) {s with heap:=h'}:=fun a c hz h' d f e=>
  ⟨.ref s⁻¹,_,I.laid (t':=s.toks) f (Ag _) (show zB X.prog X.w _ h' _ (.lst ys) from⟨hz,a,d,c,e⟩),rfl,q _ (I.hok.fresh (Ag _))⟩
 rcases hq with hq|hq
 ·obtain⟨a,c,i,hz⟩:=I.list hq
  have g:=c.length;obtain⟨o,j,hc,n,hd⟩:=i.isList;exact call_list_seq p (.inl rfl) j hc hd (fun h' d f e=>fin a c hz h' d f e) (by simp only[Aj]<;>omega)
 ·obtain⟨a,c,i,hz⟩:=I.tuple hq
  have g:=c.length;obtain⟨o,j,hc,n,hd⟩:=i;exact call_list_seq p (.inr rfl) j hc hd (fun h' d f e=>fin a c hz h' d f e) (by simp only[Aj]<;>omega)
def zE:zU X (.type "tuple") (fun xs H Q=>∃p ys,xs=[.ref p]/\((SqL X.K H p ys/\∀l,H l=none->Q (.ref l) (upd H l (.tup ys)))\/(SqT X.K H p ys/\Q (.ref p) H))):=by
 intro aa s σ H xs us Q I r h;obtain⟨p,ys,rfl,h⟩:=h;obtain⟨u,rfl,i⟩:=vals1 r;cases i;rcases h with ⟨hq,q⟩|⟨hq,q⟩
 ·obtain⟨a,c,d,hz⟩:=I.list hq
  have f:=c.length;refine call_tuple_list d.isList (fun h' g=>?_) (by simp only[Aj]<;>omega);have I1:Inv X aa σ H {s with heap:=h'}:=I.kept (t':=s.toks) g;have j:Inv X aa σ (upd H h'.objs.size (.tup ys)) {s with heap:=h'.push {cls:=.type "tuple",data:=.seq a.toArray}}:=
   I1.laid (t':=s.toks) (fun b o e=>Ad _ e) (Ag _) (show zB X.prog X.w _ _ _ (.tup ys) from⟨hz,a,c,IsTup.new _ _⟩)
  exact⟨.ref h'.objs.size,_,j,rfl,q _ (I1.hok.fresh (Ag _))⟩
 ·obtain⟨a,c,d,hz⟩:=I.tuple hq
  exact call_tuple_same d ⟨.ref p,H,I,rfl,q⟩
def DJ(K:Ae)(T:String)(x:V)(H:Hp):Prop:=match x with
 |.str _=>T="str"
 |.int _=>T="int"
 |.ref p=>(T="list"/\∃xs,SqL K H p xs)\/(T="tuple"/\∃o,K.lookup p=some o/\o.cls=.type "tuple"/\o.dict=none) \/
   (T="dict"/\((∃kvs,H p=some (.dK kvs))\/∃kvs,H p=some (.dT kvs)))\/(T="set"/\∃S n,H p=some (.set S n))
 |_=>False
def IX{aa:Ψ}{σ:St}{H:Hp}{s:Shared}{T:String}{x:V}{v:Value}(I:Inv X aa σ H s)(r:RelV x v)(ty:DJ X.K T x H):s.TypeIs v T/\∀a,v=.ref a->∃ob,s.heap.get? a=some ob/\ob.dict=none:=by
 cases x with
 |str z=>
  obtain⟨t,rfl⟩:=r;cases(show T="str" from ty);exact⟨typeIs_str s z t,fun _ e=>nomatch e⟩
 |int i=>
  obtain⟨t,rfl⟩:=r;cases(show T="int" from ty);exact⟨typeIs_int s i t,fun _ e=>nomatch e⟩
 |ref p=>
  cases r;rcases ty with ⟨rfl,xs,hq⟩|⟨rfl,o,hk,hc,hd⟩|⟨rfl,hk⟩|⟨rfl,S,n,hk⟩
  ·obtain⟨d,_,b,_⟩:=I.list hq
   refine⟨b.isList.typeIs,fun a e=>?_⟩;cases e;obtain⟨o,n,e,c,hd,_⟩:=b;exact⟨o,e,hd⟩
  ·refine⟨⟨o,I.kIn p o hk,hc⟩,fun a e=>?_⟩
   cases e;exact⟨o,I.kIn _ o hk,hd⟩
  ·have z:∃o,s.heap.get? p=some o/\o.ExactDict:=by
    rcases hk with ⟨kvs,hk⟩|⟨kvs,hk⟩
    ·obtain⟨_,_,_,_,o,_,_,e,ex,_⟩:=I.hok p _ hk
     exact⟨o,e,ex⟩
    ·obtain⟨_,_,_,_,o,_,_,e,ex,_⟩:=I.hok p _ hk
     exact⟨o,e,ex⟩
   obtain⟨o,e,ex⟩:=z;refine⟨⟨o,e,ex.1⟩,fun a e2=>?_⟩;cases e2;exact⟨o,e,ex.2.1⟩
  ·obtain⟨o,_,_,_,e,ex,_⟩:=I.hok p _ hk
   refine⟨⟨o,e,ex.1⟩,fun a e2=>?_⟩;cases e2;exact⟨o,e,ex.2.1⟩
 |_=>exact False.elim ty
def IY(K:Ae)(T:String)(r:V->List V->Hp->VK->Prop)(to:TE)(t:TA):TE:=fun σ H Q=>to σ H fun x H1=>DJ K T x H1/\t σ H1 fun xs H2=>r x xs H2 Q
variable{o e:Expr}{es:List Expr}{to:TE}{t:TA}{name:Str}{aS ay:Pos}{T id:String}{r:V->List V->Hp->VK->Prop}
def iE(p:PlainAttrs T)(slot:Slot T name id)(q:typeOf (.builtin id)=pure (.type "method_descriptor"))(hm:qQ X id r)(u:PE X o to)(w:PA X (e::es) t)(y:attributeBase o name X.env (eval o X.env)=eval o X.env:=by rfl)
  (z:((backTo ay (starEach (e::es) X.env)).all (fun x=>!x.1)&&(backToKw ay (keywordEach [] X.env)).all (fun x=>x.1.isSome)
   && decide ((e::es).length+([]:List Keyword).length+(if([]:List Keyword).isEmpty then 0 else 1)<30))=true:=by rfl)
  (A:(aS.endLine==ay.line)=true:=by rfl) (hs:starEach (e::es) X.env=(false,eval e X.env)::starEach es X.env:=by rfl) (C:(backTo ay (starEach es X.env)).any (·.1)=false:=by rfl) :
  PE X (.Call (.Attribute o name aS) (e::es) [] ay) (IY X.K T r to t):=by
 intro aa s σ H Q I h;refine wpAny_Call_method_late y z A rfl (aL (u aa s σ H _ I h) fun v f ⟨x,H1,d,b,ty,g⟩=>?_);obtain⟨h1,h2⟩:=IX d b ty;refine⟨T,id,p,slot,q,h1,h2,?_⟩;have c:=w ay aa f σ H1 _ d g;rw[hs] at c ⊢;refine Calls.callWith_builtin (by show(false|| (backTo ay (starEach es X.env)).any (·.1))=false;rw[C]<;>rfl) (Calls.evalArgs_plain ?_);exact aL c fun us i ⟨vs,H2,D,j,l⟩=>hm aa i σ H2 x vs v us Q D b j l
end
def kW(X:Cx)(id:String)(r:V->List V->Hp->VK->Prop):Prop:=
 ∀(aa:Ψ)(s:Shared)(σ:St)(H:Hp)(x:V)(xs:List V)(v:Value)(us:List Value)(Q:VK),Inv X aa σ H s->RelV x v->Vals xs us->r x xs H Q->
  wpAny (model X.prog X.w) X.A (call (.builtin id) (v::us)) (EP X aa σ Q) X.xe s
def Vals.one{x:V}{us:List Value}(h:Vals [x] us):∃u,us=[u]/\RelV x u:=by
 cases h with|cons r t=>cases t;exact⟨_,rfl,r⟩
def Vals.two{x y:V}{us:List Value}(h:Vals [x,y] us):∃u v,us=[u,v]/\RelV x u/\RelV y v:=by
 cases h with|cons r t=>obtain⟨v,rfl,q⟩:=Vals.one t;exact⟨_,_,rfl,r,q⟩
def Vals.zero:∀{us:List Value},Vals [] us->us=[]
 |_,.nil=>rfl
def Vals.eraseIdx:∀{xs:List V}{us:List Value}(i:Nat),Vals xs us->Vals (xs.eraseIdx i) (us.eraseIdx i)
 |_,_,_,.nil=>.nil
 |_,_,0,.cons _ t=>t
 |_,_,i+1,.cons r t=>.cons r (Vals.eraseIdx i t)
def Vals.reverse{xs:List V}{us:List Value}(h:Vals xs us):Vals xs.reverse us.reverse:=by
 induction h with
 |nil=>exact .nil
 |cons r t ih=>rw[List.reverse_cons,List.reverse_cons];exact Vals.append ih (.cons r .nil)
section
variable{X:Cx}{aa:Ψ}{σ:St}{H:Hp}{s:Shared}{l b:Addr}{xs ys zs:List V}
def Inv.lset{a its':List Value}{n:Nat}{f:Array Value->Array Value}{t':Nat}(I:Inv X aa σ H s)(b:H l=some (.lst xs))(e:s.heap.get? l=some {cls:=.type "list",data:=.seq a.toArray n})(hf:f a.toArray=its'.toArray)(c:Vals ys its')(hz:ys.length<=sizeLine):Inv X aa σ (upd H l (.lst ys)) {s with heap:=s.heap.update l (AH f),toks:=t'}:=by
 have q:=PySem.IsL.update e f;rw[hf] at q;refine I.write (x:=l) (e:=l) (by rw[b];exact trivial) (.inl rfl) (fun d u hb hu=>(Heap.get?_update_other s.heap (AH f) (Ne.symm hb)).trans hu) ⟨_,q⟩ ?_;exact⟨hz,its',_,c,q⟩
def Inv.lnew{a:List Value}{t':Nat}(I:Inv X aa σ H s)(b:Vals ys a)(hz:ys.length<=sizeLine):Inv X aa σ (upd H s⁻¹ (.lst ys)) {s with heap:=s.heap.push {cls:=.type "list",data:=.seq a.toArray},toks:=t'}:=
 I.laid (fun _ _ q=>Ad _ q) (Ag _) ⟨hz,a,0,b,Al _ rfl⟩
def Inv.fresh(I:Inv X aa σ H s):H s⁻¹=none:=I.hok.fresh (Ag _)
def Inv.lstM(I:Inv X aa σ H s)(b:H l=some (.lst xs)):xs.length<=sizeLine/\∃(a:List Value)(n:Nat),Vals xs a/\xs.length=a.length/\s.heap.get? l=some {cls:=.type "list",data:=.seq a.toArray n}:=by
 obtain⟨z,a,n,r,e⟩:=I.hok l _ b;exact⟨z,a,n,r,r.length,e⟩
def IZ{n:Nat}(h:n<=sizeLine):Builtin.List.listTooLong n=false:=by
 unfold Builtin.List.listTooLong;exact decide_eq_false ω
end
section
variable{X:Cx}
def zmQ:V->List V->Hp->VK->Prop:=fun x vs H Q=>∃l xs y,x=.ref l/\vs=[y]/\H l=some (.lst xs)/\xs.length<sizeLine/\Q .non (upd H l (.lst (xs++[y])))
def qX:kW X "list.append" zmQ:=by
 intro aa s σ H x vs v us Q I c d h;obtain⟨l,xs,y,rfl,rfl,a,hz,q⟩:=h;cases c;obtain⟨u,rfl,f⟩:=d.one;obtain⟨z,b,n,r,g,e⟩:=I.lstM a;refine call_meets F.slot_list_append ⟨_,e,rfl⟩ F.entry_list_append (F.args_list_append_2 _ _) (PySem.list_append l b.toArray n u (by rw[Aj];omega)) ⟨e,?_⟩;refine⟨.non,_,I.lset (its':=b++[u]) a e (by simp) (r.append (.cons f .nil)) ?_,rfl,q⟩;rw[As,List.length_singleton];omega
def zl9:V->List V->Hp->VK->Prop:=fun x vs H Q=>∃l b xs zs,x=.ref l/\vs=[.ref b]/\H l=some (.lst xs)/\H b=some (.lst zs)/\xs.length+zs.length<=sizeLine/\Q .non (upd H l (.lst (xs++zs)))
def DK:kW X "list.extend" zl9:=by
 intro aa s σ H x vs v us Q I g i h;obtain⟨l,b,xs,zs,rfl,rfl,f,j,hz,q⟩:=h;cases g;obtain⟨u,rfl,o⟩:=i.one;cases o;obtain⟨z,c,n,r,y,e⟩:=I.lstM f;obtain⟨z2,d,n2,p,w,e2⟩:=I.lstM j;have hsz:c.toArray.size+d.toArray.size<=sizeLine:=by rw[Aj,Aj];omega
 have a:¬(!c.toArray.isEmpty&&Builtin.List.listTooLong (c.toArray.size+d.toArray.size))=true:=by
  rw[IZ hsz,Bool.and_false];exact Aq
 refine call_meets F.slot_list_extend ⟨_,e,rfl⟩ F.entry_list_extend (F.args_list_extend_2 _ _)
  (AutoSeq1.list_extend_list_list_0 l c.toArray n b d.toArray n2 a (by rw[Aj];omega) ω) ⟨e,e2,?_⟩
 refine⟨.non,_,I.lset (its':=c++d) f e (by simp) (r.append p) ?_,rfl,q⟩;rw[As];omega
def wI:R2:=fun x y H Q=>∃l b xs zs,x=.ref l/\y=.ref b/\H l=some (.lst xs)/\H b=some (.lst zs)/\xs.length+zs.length<=sizeLine/\∀p,H p=none->Q (.ref p) (upd H p (.lst (xs++zs)))
def fR:bU X (binaryOp .Add) wI:=by
 intro aa s σ H x y v u Q I d f h;obtain⟨l,b,xs,zs,rfl,rfl,g,i,hz,q⟩:=h;cases d;cases f;obtain⟨z,a,n,r,w,e⟩:=I.lstM g;obtain⟨z2,c,n2,j,o,e2⟩:=I.lstM i;refine PySem.P.add_list e e2 ?_ (by rw[Aj,Aj];omega);have p:a.toArray++c.toArray=(a++c).toArray:=by simp
 rw[p];exact⟨.ref _,_,I.lnew (t':=s.toks) (r.append j) (by rw[As];omega),rfl,q _ I.fresh⟩
end
section
variable{prog:Program}{w:World}{A:Around}{E:Ω}{s:Shared}
set_option maxRecDepth 100000 in
end
section
variable{κ:Type}[DecidableEq κ]
def bv(kvs:List (κ×V))(k:κ):Option V:=(kvs.find? fun kv=>decide (kv.1=k)).map (·.2)
def putK(kvs:List (κ×V))(k:κ)(v:V):List (κ×V):=
 if(kvs.any fun kv=>decide (kv.1=k))=true then kvs.map (fun kv=>if kv.1=k then(kv.1,v) else kv) else kvs++[(k,v)]
def OU(kvs:List (κ×V))(k:κ):List (κ×V):=kvs.filter fun kv=>decide (kv.1≠k)
def nt{p:κ×V}{r:List (κ×V)}{k:κ}(e:p.1=k):bv (p::r) k=some p.2:=by simp[bv,List.find?_cons,e]
def nu{p:κ×V}{r:List (κ×V)}{k:κ}(e:¬p.1=k):bv (p::r) k=bv r k:=by simp[bv,List.find?_cons,e]
def DL(k:κ):∀kvs:List (κ×V),(kvs.any fun kv=>decide (kv.1=k))=(bv kvs k).isSome
 |[]=>rfl
 |p::r=>by
  rw[List.any_cons]
  by_cases e:p.1=k
  ·simp only[nt e,decide_eq_true e,Bool.true_or,Option.isSome_some]
  ·rw[nu e,decide_eq_false e,Bool.false_or];exact DL k r
def qZ(kvs:List (κ×V))(k:κ)(v:V):(putK kvs k v).length<=kvs.length+1:=by
 unfold putK;split
 ·rw[Ab];omega
 ·rw[As,Au,List.length_nil];omega
def RelO.isSome_eq{o:Option V}{u:Option Value}(r:RelO o u):o.isSome=u.isSome:=by
 cases o with
 |none=>cases u with
  |none=>rfl
  |some _=>exact(show False from r).elim
 |some _=>cases u with
  |none=>exact(show False from r).elim
  |some _=>rfl
def RelO.getD{o:Option V}{u:Option Value}{d:V}{d':Value}(r:RelO o u)(a:RelV d d'):RelV (o.getD d) (u.getD d'):=by
 cases o with
 |none=>cases u with
  |none=>exact a
  |some _=>exact(show False from r).elim
 |some _=>cases u with
  |none=>exact(show False from r).elim
  |some _=>exact r
def KV.val{kvs:List (κ×V)}{vs:List (κ×Value)}(r:KV kvs vs)(k:κ):RelO (bv kvs k) (valueAt vs k):=by
 unfold KV at r
 induction r with
 |nil=>exact True.intro
 |@cons p q ps a h t d=>
  obtain⟨h1,h2⟩:=h
  by_cases e:p.1=k
  ·have c:q.1=k:=h1.symm.trans e
   have b:valueAt (q::a) k=some q.2:=by simp[valueAt,List.find?_cons,c]
   rw[nt e,b];exact h2
  ·have c:¬q.1=k:=fun z=>e (h1.trans z)
   have b:valueAt (q::a) k=valueAt a k:=by simp[valueAt,List.find?_cons,c]
   rw[nu e,b];exact d
def KV.any{kvs:List (κ×V)}{vs:List (κ×Value)}(r:KV kvs vs)(k:κ):(kvs.any fun kv=>decide (kv.1=k))=vs.any fun kv=>decide (kv.1=k):=by
 unfold KV at r
 induction r with
 |nil=>rfl
 |cons h t ih=>rw[List.any_cons,List.any_cons,ih,h.1]
def KV.repl{kvs:List (κ×V)}{vs:List (κ×Value)}(r:KV kvs vs)(k:κ){y:V}{u:Value}(a:RelV y u):KV (kvs.map fun kv=>if kv.1=k then(kv.1,y) else kv) (vs.map fun kv=>if kv.1=k then(kv.1,u) else kv):=by
 unfold KV at r ⊢
 induction r with
 |nil=>exact .nil
 |@cons p q ps qs h t ih=>
  rw[Ax,Ax];refine .cons ?_ ih;obtain⟨h1,h2⟩:=h
  by_cases e:p.1=k
  ·rw[if_pos e,if_pos (h1.symm.trans e)];exact⟨h1,a⟩
  ·rw[if_neg e,if_neg (fun z=>e (h1.trans z))];exact⟨h1,h2⟩
def KV.put{kvs:List (κ×V)}{vs:List (κ×Value)}(r:KV kvs vs)(k:κ){y:V}{u:Value}(a:RelV y u):KV (putK kvs k y) (stored vs k u):=by
 unfold putK stored;rw[r.any k]
 by_cases e:(vs.any fun kv=>decide (kv.1=k))=true
 ·rw[if_pos e,if_pos e];exact r.repl k a
 ·rw[if_neg e,if_neg e];exact Paired.snoc r ⟨rfl,a⟩
def KV.length{kvs:List (κ×V)}{vs:List (κ×Value)}(r:KV kvs vs):kvs.length=vs.length:=A2 r
end
def nw{P:Program}{w:World}{k:Key}{u:Value}(r:RelV (kV k) u):(zt P w).is k u=true:=by
 cases k with
 |inl i=>obtain⟨t,e⟩:=(show ∃t,u=Value.int i t from r);subst e;exact vl P w i t
 |inr x=>obtain⟨t,e⟩:=(show ∃t,u=Value.str x t from r);subst e;exact HV P w x t
def DO{P:Program}{w:World}:∀{ks:List Key}{us:List Value},Vals (ks.map kV) us->ItemsAre (zt P w) ks us
 |[],_,r=>by rw[List.map_nil] at r;cases r;exact .nil
 |k::ks,_,r=>by
  rw[Ax] at r;cases r with
  |cons h t=>exact .cons (nw h) (DO t)
abbrev KT(H:Hp):List (List Key×V)->List (List Key×Addr×Value)->Prop:=Paired fun p q=>p.1=q.1/\H q.2.1=some (.tup (p.1.map kV))/\RelV p.2 q.2.2
def KT.val{H:Hp}{kvs:List (List Key×V)}{xs:List (List Key×Addr×Value)}(r:KT H kvs xs)(k:List Key):RelO (bv kvs k) ((atKey xs k).map (·.2)):=by
 induction r with
 |nil=>exact True.intro
 |@cons p q ps a h t d=>
  obtain⟨h1,_,h2⟩:=h
  by_cases e:p.1=k
  ·have c:q.1=k:=h1.symm.trans e
   have b:atKey (q::a) k=some q.2:=by simp[atKey,List.find?_cons,c]
   rw[nt e,b];exact h2
  ·have c:¬q.1=k:=fun z=>e (h1.trans z)
   have b:atKey (q::a) k=atKey a k:=by simp[atKey,List.find?_cons,c]
   rw[nu e,b];exact d
def KT.repl{H:Hp}{kvs:List (List Key×V)}{xs:List (List Key×Addr×Value)}(r:KT H kvs xs)(k:List Key){y:V}{u:Value}(b:RelV y u):KT H (kvs.map fun kv=>if kv.1=k then(kv.1,y) else kv) (xs.map (putAt k u)):=by
 induction r with
 |nil=>exact .nil
 |@cons p q ps qs h t ih=>
  rw[Ax,Ax];refine .cons ?_ ih;obtain⟨h1,h2,a⟩:=h;unfold putAt
  by_cases e:p.1=k
  ·rw[if_pos e,if_pos (h1.symm.trans e)];exact⟨h1,h2,b⟩
  ·rw[if_neg e,if_neg (fun z=>e (h1.trans z))];exact⟨h1,h2,a⟩
def KT.put{H:Hp}{kvs:List (List Key×V)}{xs:List (List Key×Addr×Value)}(r:KT H kvs xs)(k:List Key){b:Addr}{y:V}{u:Value}(hb:H b=some (.tup (k.map kV)))(a:RelV y u):KT H (putK kvs k y) (storedH xs k b u):=by
 have e:(kvs.any fun kv=>decide (kv.1=k))=(atKey xs k).isSome:=by
  rw[DL,(r.val k).isSome_eq,Option.isSome_map]
 unfold putK storedH;rw[e]
 by_cases q:(atKey xs k).isSome=true
 ·rw[if_pos q,if_pos q];exact r.repl k a
 ·rw[if_neg q,if_neg q];exact Paired.snoc r ⟨rfl,hb,a⟩
def KT.keeps{H H':Hp}{kvs:List (List Key×V)}{xs:List (List Key×Addr×Value)}(r:KT H kvs xs)(a:∀b ys,H b=some (.tup ys)->H' b=some (.tup ys)):KT H' kvs xs:=
 Paired.mapP r fun _ _ z=>⟨z.1,a _ _ z.2.1,z.2.2⟩
section
variable{P:Program}{w:World}{H:Hp}{h:Heap}{a:Addr}
def DP{u:HO}(ok:HOk P w H h)(e:Rd H a u):zB P w H h a u:=e.ok ok
def jj{kvs:List (Key×V)}(ok:HOk P w H h)(e:Rd H a (.dK kvs)):kvs.length<=sizeLine/\(a==A0)=false/\∃vs,KV kvs vs/\h.DictOf (zt P w) a vs:=
 show zB P w H h a (.dK kvs) from DP ok e
def wR{kvs:List (Key×V)}(ok:HOk P w H h)(e:H a=some (.dK kvs)):kvs.length<=sizeLine/\(a==A0)=false/\∃vs,KV kvs vs/\h.DictOf (zt P w) a vs:=jj ok (.inl e)
def kX{ks:List Key}(ok:HOk P w H h)(e:H a=some (.tup (ks.map kV))):(tupleKind (zt P w)).is h ks a:=by
 obtain⟨_,b,r,o,h1,h2,n,c⟩:=(show zB P w H h a (.tup (ks.map kV)) from ok a _ e);exact⟨o,b.toArray,n,h1,h2,c,by simpa using DO r⟩
def ny{kvs:List (List Key×V)}(ok:HOk P w H h)(e:Rd H a (.dT kvs)):kvs.length<=sizeLine/\(a==A0)=false/\
  ∃xs,KT H kvs xs/\h.DictOfH (tupleKind (zt P w)) a xs:=by
 obtain⟨z,y,xs,r,o,es,ep,h1,h2,b,c,d⟩:=(show zB P w H h a (.dT kvs) from DP ok e);refine⟨z,y,xs,r,o,es,ep,h1,h2,b,c,fun x hx=>?_,d⟩;have all:∀{l:List (List Key×V)}{m:List (List Key×Addr×Value)},KT H l m->∀x∈m,(tupleKind (zt P w)).is h x.1 x.2.1:=by
  intro l m q
  induction q with
  |nil=>intro x hx;exact nomatch hx
  |@cons p q ps qs hq t ih=>
   intro x hx;rcases List.mem_cons.mp hx with e|hx
   ·subst e
    exact kX ok (by rw[<-hq.1];exact hq.2.1)
   ·exact ih x hx
 exact all r x hx
def I0{kvs:List (List Key×V)}(ok:HOk P w H h)(e:H a=some (.dT kvs)):kvs.length<=sizeLine/\(a==A0)=false/\
  ∃xs,KT H kvs xs/\h.DictOfH (tupleKind (zt P w)) a xs:=ny ok (.inl e)
end
def DGet(H:Hp)(a:Addr)(y:V)(r:Option V):Prop:=
 (∃kvs k,Rd H a (.dK kvs)/\y=kV k/\r=bv kvs k)\/∃kvs k b,Rd H a (.dT kvs)/\y=.ref b/\H b=some (.tup (k.map kV))/\r=bv kvs k
def DPut(H:Hp)(a:Addr)(y v:V)(H':Hp):Prop:=
 (∃kvs k,H a=some (.dK kvs)/\y=kV k/\kvs.length<sizeLine/\H'=upd H a (.dK (putK kvs k v))) \/
 ∃kvs k b,H a=some (.dT kvs)/\y=.ref b/\H b=some (.tup (k.map kV))/\kvs.length<sizeLine/\H'=upd H a (.dT (putK kvs k v))
def DGet.k{H:Hp}{a:Addr}{kvs:List (Key×V)}{k:Key}(e:H a=some (.dK kvs)):DGet H a (kV k) (bv kvs k):=.inl ⟨kvs,k,.inl e,rfl,rfl⟩
def DGet.t{H:Hp}{a b:Addr}{kvs:List (List Key×V)}{k:List Key}(e:H a=some (.dT kvs))(c:H b=some (.tup (k.map kV))):DGet H a (.ref b) (bv kvs k):=.inr ⟨kvs,k,b,.inl e,rfl,c,rfl⟩
def DPut.k{H:Hp}{a:Addr}{kvs:List (Key×V)}{k:Key}{v:V}(e:H a=some (.dK kvs))(b:kvs.length<sizeLine):DPut H a (kV k) v (upd H a (.dK (putK kvs k v))):=.inl ⟨kvs,k,e,rfl,b,rfl⟩
def DPut.t{H:Hp}{a b:Addr}{kvs:List (List Key×V)}{k:List Key}{v:V}(e:H a=some (.dT kvs))(c:H b=some (.tup (k.map kV)))(d:kvs.length<sizeLine):DPut H a (.ref b) v (upd H a (.dT (putK kvs k v))):=.inr ⟨kvs,k,b,e,rfl,c,d,rfl⟩
section
variable{X:Cx}{aa:Ψ}{σ:St}{H:Hp}{s:Shared}{a:Addr}{y v:V}{u r:Value}{o:Option V}{A:Around}{E:Ω}
def Inv.big(I:Inv X aa σ H s):A0<s⁻¹:=by
 have h:mainGlobals<s⁻¹:=(I.mod.glob.keeps I.bk).lt;exact Nat.lt_trans ξ h
def I_{Q:Ω}(hu:A.units+1<cLine)(I:Inv X aa σ H s)(g:DGet H a y (some v))(j:RelV y u)(h:∀d s',Inv X aa σ H s'->RelV v d->Q d s'):wpAny (model X.prog X.w) A (getItem (.ref a) u) Q E s:=by
 rcases g with ⟨kvs,k,e,f,l⟩|⟨kvs,k,b,e,f,q,l⟩
 ·subst f
  obtain⟨z,hd,vs,c,dd⟩:=jj I.hok e;obtain⟨d,hw,i⟩:=RelO.some_of (v:=v) (o:=valueAt vs k) (by rw[l];exact c.val k);exact wpAny_getItem_of (nw j) dd.mapOf hw (h d _ (I.tok _) i)
 ·subst f
  cases(show u=Value.ref b from j);obtain⟨z,hd,xs,c,dd⟩:=ny I.hok e;obtain⟨d,hw,i⟩:=RelO.some_of (v:=v) (o:=(atKey xs k).map (·.2)) (by rw[l];exact c.val k);obtain⟨p,hp,r⟩:=Option.map_eq_some_iff.mp hw;refine wpAny_getItem_heap (tupleKind_room_in1 hu) (kX I.hok q) dd hp ?_;rw[r];exact h d _ (I.tok _) i
def nz{h':Heap}{t':Nat}{ob:HO}(I:Inv X aa σ H s)(c:l' (H a))(hs:AQ a s.heap h')(he:∃q,h'.get? a=some q)(new:zB X.prog X.w (upd H a ob) h' a ob):Inv X aa σ (upd H a ob) {s with heap:=h',toks:=t'}:=
 I.write (x:=a) (e:=a) c (.inl rfl) (fun b q hb z=>(hs.2 b hb).trans z) he new
def dk_new{P:Program}{w:World}{H':Hp}{h':Heap}{kvs:List (Key×V)}{vs:List (Key×Value)}(z:kvs.length<=sizeLine)(hd:(a==A0)=false)(b:KV kvs vs)(dd:h'.DictOf (zt P w) a vs):zB P w H' h' a (.dK kvs):=⟨z,hd,vs,b,dd⟩
def Ja{H':Hp}{Q:Unit->Shared->Prop}(hu:A.units+1<cLine)(I:Inv X aa σ H s)(g:DPut H a y v H')(D:RelV y u)(p:RelV v r)(h:∀s',Inv X aa σ H' s'->Q () s'):wpAny (model X.prog X.w) A (setItem (.ref a) u r) Q E s:=by
 rcases g with ⟨kvs,k,e,j,l,o⟩|⟨kvs,k,b,e,j,x,l,o⟩
 ·subst j o
  obtain⟨z,hd,vs,d,dd⟩:=wR I.hok e;have hz:vs.length<=sizeLine:=by rw[<-d.length];exact z
  have i:(putK kvs k v).length<=sizeLine:=by have:=qZ kvs k v;omega
  refine wpAny_setItem_pairs (hsz:=hz) (nw D) dd fun h' f hs=>h _ ?_;have he:∃q,h'.get? a=some q:=let ⟨q,_,_,hq,_⟩:=f;⟨q,hq⟩;exact nz I (by rw[e];exact True.intro) hs he (dk_new i hd (d.put k p) f)
 ·subst j o
  cases(show u=Value.ref b from D);obtain⟨z,hd,xs,d,dd⟩:=I0 I.hok e;have hz:xs.length<=sizeLine:=by rw[<-A2 d];exact z
  have i:(putK kvs k v).length<=sizeLine:=by have:=qZ kvs k v;omega
  refine wpAny_setItem_heap (hsz:=hz) (tupleKind_room_in1 hu) (kX I.hok x) dd fun h' f hs=>h _ ?_;obtain⟨q,es,ep,hq,h2,F,G,_,J⟩:=f;refine nz I (by rw[e];exact True.intro) hs ⟨q,hq⟩ ⟨i,hd,_,(d.put k x p).keeps fun c ys C=>?_,q,es,ep,hq,h2,F,G,J⟩;rw[zl (a0 C e (fun z=>nomatch z))];exact C
end
def nD(i:Expr):Prop:=∀a iv,subscripted i false a iv=operate [a,iv] (getItem a iv)
def Jb{prog:Program}{w:World}{A:Around}{E:Ω}{s:Shared}{env:Env}{aP slice:Expr}{pos:Pos}{T id:String}{Q:Ω}(g:typeLookup (.type T) "__getitem__"=pure (some (.builtin id)))(hs:nD slice)(h:wpAny (model prog w) A (eval aP env) (fun o c=>wpAny (model prog w) A (eval slice env) (fun i a=>a.TypeIs o T/\wpAny (model prog w) A (getItem o i) Q E a) E c) E s):wpAny (model prog w) A (eval (.Subscript aP slice pos) env) Q E s:=by
 refine Subscript_ (wpAny_mono h (fun o c e=>wpAny_mono e (fun i a b=>?_) fun _ _ x=>x) fun _ _ x=>x);obtain⟨hT,b⟩:=b;unfold subscriptTail;refine Aa ?_;rw[getitemInPython_of_ne hT.not_modules];refine Aa (wpAny_specialOf hT g ?_);have fin:wpAny (model prog w) A (subscripted slice false o i) (fun r d=>wpAny (model prog w) A (letTemporaryGo aP o r >>= fun _=>pure r) Q E d) E a:=by
  rw[hs o i];exact wpAny_operating (wpAny_mono b (fun r d f=>Aa (wpAny_letTemporaryGo (Ac f))) fun _ _ x=>x)
 first
  |exact Ac (Aa fin)
  |exact Aa (Ac (Aa fin))
  |exact Aa fin
def Jc{X:Cx}{aa:Ψ}{σ:St}{H:Hp}{s:Shared}{a:Addr}{y:V}{o:Option V}(I:Inv X aa σ H s)(g:DGet H a y o):s.TypeIs (.ref a) "dict":=by
 rcases g with ⟨kvs,k,e,_,_⟩|⟨kvs,k,b,e,_,_,_⟩
 ·obtain⟨_,_,vs,_,dd⟩:=jj I.hok e
  exact dd.typeIs
 ·obtain⟨_,_,xs,_,dd⟩:=ny I.hok e
  exact dd.typeIs
def nF(td ty:TE):TE:=fun σ H Q=>td σ H fun x H1=>ty σ H1 fun y H2=>∃a v,x=.ref a/\DGet H2 a y (some v)/\Q v H2
def Jd(td ty tv:TE):TS:=fun D σ H=>tv σ H fun v H1=>td σ H1 fun x H2=>ty σ H2 fun y c=>∃a b,x=.ref a/\DPut c a y v b/\D.nx σ b
section
variable{X:Cx}{o i e aP:Expr}{pos aY fc:Pos}{td ty tv:TE}
def eT(hu:X.A.units+1<cLine)(p:PE X o td)(hi:PE X i ty)(hs:nD i):PE X (.Subscript o i pos) (nF td ty):=by
 intro aa s σ H Q I h;refine Jb PySem.F.slot_dict_getitem.lookup hs (aL (p aa s σ H _ I h) fun u c ⟨x,H1,q,d,e⟩=>aL (hi aa c σ H1 _ q e) fun iv w ⟨y,H2,b,f,a,v,ex,g,j⟩=>?_);subst ex;obtain rfl:u=Value.ref a:=d;exact⟨Jc b g,I_ hu b g f fun z C r l=>⟨v,H2,r,l,j⟩⟩
def hV(hu:X.A.units+1<cLine)(q:PE X o td)(hi:PE X i ty)(w:PE X aP tv)(hs:swapsWith aP (some (.Subscript o i aY)) pos.line X.env=pure false):PS X (.Assign [.Subscript o i aY] aP pos) (Jd td ty tv):=by
 intro aa s σ H D I h;refine wpAny_Assign_Subscript (aL (w aa s σ H _ I h) fun r b ⟨v,H1,z,c,d⟩=>aL (q aa b σ H1 _ z d) fun u e ⟨x,H2,C,f,j⟩=>aL (hi aa e σ H2 _ C j) fun iv J ⟨y,M,E,l,a,F,ex,g,p⟩=>?_) hs;subst ex;obtain rfl:u=Value.ref a:=f;exact Ja hu E g l c fun L G=>⟨σ,F,G,p⟩
end
def Je{P:Program}{w:World}{H:Hp}(h:Heap)(hb:A0<h.objs.size):zB P w H (h.push {cls:=.type "dict",data:=.dict #[]}) h.objs.size (.dK []):=
 ⟨AK _,beq_eq_false_iff_ne.mpr (Ne.symm (Ao hb)),[],.nil,Heap.DictOf.new h⟩
def Jf{P:Program}{w:World}{H:Hp}(h:Heap)(hb:A0<h.objs.size):zB P w H (h.push {cls:=.type "dict",data:=.dict #[]}) h.objs.size (.dT []):=
 ⟨AK _,beq_eq_false_iff_ne.mpr (Ne.symm (Ao hb)),[],.nil,_,#[],0,Al _ rfl,⟨rfl,rfl,rfl⟩,rfl,rfl,List.nodup_nil⟩
def Jg:TE:=fun _ H Q=>∀p,H p=none->Q (.ref p) (upd H p (.dK []))
def DQ:TE:=fun _ H Q=>∀p,H p=none->Q (.ref p) (upd H p (.dT []))
section
variable{X:Cx}{pos:Pos}
def DR:PE X (.Dict [] [] pos) Jg:=fun aa s σ H Q I h=>
 wpAny_Dict_empty ⟨.ref s⁻¹,_,I.laid (a:=s⁻¹) (o:=.dK []) (t':=s.toks) (fun _ _ q=>Ad _ q) (Ag _) (Je s.heap I.big),rfl,h _ (I.hok.fresh (Ag _))⟩
def jV:PE X (.Dict [] [] pos) DQ:=fun aa s σ H Q I h=>
 wpAny_Dict_empty ⟨.ref s⁻¹,_,I.laid (a:=s⁻¹) (o:=.dT []) (t':=s.toks) (fun _ _ q=>Ad _ q) (Ag _) (Jf s.heap I.big),rfl,h _ (I.hok.fresh (Ag _))⟩
end
def Jh(kvs more:List (Key×V)):List (Key×V):=more.foldl (fun acc kv=>putK acc kv.1 kv.2) kvs
def KV.merge:∀{more:List (Key×V)}{a:List (Key×Value)}{kvs:List (Key×V)}{vs:List (Key×Value)},KV more a->KV kvs vs->KV (Jh kvs more) (merged vs a):=by
 intro more a kvs vs r;unfold KV at r
 induction r generalizing kvs vs with
 |nil=>intro q;exact q
 |@cons p q ps qs h t ih=>
  intro b;have e:KV (putK kvs p.1 p.2) (stored vs q.1 q.2):=by
   have:=b.put p.1 h.2;rw[<-h.1];exact this
  exact ih e
structure M1(X:Cx)(o:Expr)(m:Str)(aS:Pos)(e:Expr)(ay:Pos):Prop where
 base:attributeBase o m X.env (eval o X.env)=eval o X.env
 few:((backTo ay (starEach [e] X.env)).all (fun x=>!x.1)&&(backToKw ay (keywordEach [] X.env)).all (fun x=>x.1.isSome)
  && decide (([e]:List Expr).length+([]:List Keyword).length+(if([]:List Keyword).isEmpty then 0 else 1)<30))=true
 line:(aS.endLine==ay.line)=true
 trees:backTo ay (starEach [e] X.env)=[(false,eval e X.env)]
structure M2(X:Cx)(o:Expr)(m:Str)(aS:Pos)(e f:Expr)(ay:Pos):Prop where
 base:attributeBase o m X.env (eval o X.env)=eval o X.env
 few:((backTo ay (starEach [e,f] X.env)).all (fun x=>!x.1)&&(backToKw ay (keywordEach [] X.env)).all (fun x=>x.1.isSome)
  && decide (([e,f]:List Expr).length+([]:List Keyword).length+(if([]:List Keyword).isEmpty then 0 else 1)<30))=true
 line:(aS.endLine==ay.line)=true
 trees:backTo ay (starEach [e,f] X.env)=[(false,eval e X.env),(false,eval f X.env)]
def IsD(H:Hp)(a:Addr):Prop:=(∃kvs,Rd H a (.dK kvs))\/∃kvs,Rd H a (.dT kvs)
def Ji{X:Cx}{aa:Ψ}{σ:St}{H:Hp}{s:Shared}{a:Addr}(I:Inv X aa σ H s)(d:IsD H a):s.TypeIs (.ref a) "dict"/\(∀b,Value.ref a=.ref b->∃ob,s.heap.get? b=some ob/\ob.dict=none)/\(a==A0)=false:=by
 rcases d with ⟨kvs,e⟩|⟨kvs,e⟩
 ·obtain⟨_,hd,vs,_,dd⟩:=jj I.hok e
  refine⟨dd.typeIs,fun b q=>?_,hd⟩;cases q;obtain⟨ob,_,_,h1,h2,_⟩:=dd;exact⟨ob,h1,h2.2.1⟩
 ·obtain⟨_,hd,xs,_,dd⟩:=ny I.hok e
  refine⟨dd.typeIs,fun b q=>?_,hd⟩;cases q;obtain⟨ob,_,_,h1,h2,_⟩:=dd;exact⟨ob,h1,h2.2.1⟩
section
variable{X:Cx}{aa:Ψ}{σ:St}{H:Hp}{s:Shared}{a:Addr}{y d:V}{u r:Value}{o:Option V}{A:Around}{E:Ω}
def Jj{Q:Ω}(hu:A.units+1<cLine)(I:Inv X aa σ H s)(g:DGet H a y o)(j:RelV y u)(p:RelV d r)(h:∀i s',Inv X aa σ H s'->RelV (o.getD d) i->Q i s'):wpAny (model X.prog X.w) A (call (.builtin "dict.get") [.ref a,u,r]) Q E s:=by
 rcases g with ⟨kvs,k,e,f,l⟩|⟨kvs,k,b,e,f,q,l⟩
 ·subst f
  obtain⟨z,hd,vs,c,dd⟩:=jj I.hok e;refine call_meetsIn PySem.F.slot_dict_get dd.typeIs PySem.F.entry_dict_get (PySem.F.args_dict_get_3 _ _ _) (meets_dict_get_default (zt X.prog X.w) a (nw j) hd r) ⟨_,dd.mapOf,h _ _ (I.tok _) ?_⟩;rw[l];exact(c.val k).getD p
 ·subst f
  cases(show u=Value.ref b from j);obtain⟨z,hd,xs,c,dd⟩:=ny I.hok e;refine call_meetsIn PySem.F.slot_dict_get dd.typeIs PySem.F.entry_dict_get (PySem.F.args_dict_get_3 _ _ _) (meetsH_dict_get_default (tupleKind (zt X.prog X.w)) a b hd r) ⟨tupleKind_room_in1 hu,k,xs,kX I.hok q,dd,h _ _ (I.tok _) ?_⟩;rw[l];exact(c.val k).getD p
end
def Jk(td ty tx:TE):TE:=fun σ H Q=>td σ H fun x H1=>∃a,x=.ref a/\IsD H1 a/\ty σ H1 fun y H2=>tx σ H2 fun z b=>∃o,DGet b a y o/\Q (o.getD z) b
section
variable{X:Cx}{o e f:Expr}{aS ay:Pos}{td ty tx:TE}
def DS(hu:X.A.units+1<cLine)(E:PE X o td)(he:PE X e ty)(hf:PE X f tx)(m:M2 X o "get" aS e f ay):PE X (.Call (.Attribute o "get" aS) [e,f] [] ay) (Jk td ty tx):=by
 intro aa s σ H Q I h;refine wpAny_Call_method m.base m.few m.line PySem.F.plainAttrs_dict PySem.F.slot_dict_get PySem.F.type_dict_get (aL (E aa s σ H _ I h) fun u c ⟨x,H1,b,i,a,ex,d,j⟩=>?_);subst ex;obtain rfl:u=Value.ref a:=i;obtain⟨C,D,_⟩:=Ji b d;refine⟨C,D,?_⟩;rw[m.trees];refine Calls.callWith_builtin rfl (Calls.evalArgs_plain (Calls.spliced_cons (aL (he aa c σ H1 _ b j) fun iv l ⟨y,H2,G,p,q⟩=>
  Calls.spliced_cons (aL (hf aa l σ H2 _ G q) fun N O ⟨z,J,L,r,P,g,v⟩=>Calls.spliced_nil ?_))))
 exact Jj hu L g p r fun S T M w=>⟨_,J,M,w,v⟩
end
section
variable{X:Cx}{aa:Ψ}{σ:St}{H:Hp}{s:Shared}{a:Addr}{kvs:List (Key×V)}{A:Around}{E:Ω}
def Jl{Q:Ω}(I:Inv X aa σ H s)(e:Rd H a (.dK kvs))(h:∀p s',H p=none->Inv X aa σ (upd H p (.dK kvs)) s'->Q (.ref p) s'):wpAny (model X.prog X.w) A (call (.type "dict") [.ref a]) Q E s:=by
 obtain⟨z,hd,vs,c,dd⟩:=jj I.hok e;refine kt_call_dict hd dd (by rw[<-c.length];exact z) fun h' d hs=>?_;refine h _ _ (I.hok.fresh (Ag _)) (I.laid (a:=s⁻¹) (o:=.dK kvs) (t':=s.toks) (fun b q hq=>?_) (Ag _) (dk_new z (beq_eq_false_iff_ne.mpr (Ne.symm (Ao I.big))) c d));exact(hs.2 b (Ao (Ak hq))).trans (Ad _ hq)
end
end L2
namespace Att
open PySem PySem.W PySem.Calls PyProof.Rows
def Jm{P:Params}{h:Heap}:∀(ns:List Int)(vs:List Value),WellAll P h vs (ns.map WData.int)->IntsAre vs ns:=by
 intro ns
 induction ns with
 |nil=>
  intro vs w;rw[List.map_nil] at w;cases w;exact .nil
 |cons n ns ih=>
  intro vs w;rw[Ax] at w;cases w with
  |cons a b=>
   cases a;exact .cons _ _ (ih _ b)
def Jn{l:OpenLaw}{n:Nat}(o:l.most=some n){P:Params}{h:Heap}{args:List WData}{vals:List Value}(g:l.row.toRowW.claim.pre args=true)(p:WellAll P h vals args):∃a vs ns,vals=[Value.ref a]/\args=[WData.list (ns.map WData.int)]/\h.get? a=some {cls:=.type "list",data:=.seq vs.toArray}/\IntsAre vs ns/\ns.length<=n:=by
 have f:WShape.hasAll [] args [.list .int]=true:=(pre_splitW g).1;have hc:l.pre.holds [] {args:=args}=true:=(pre_splitW g).2;obtain⟨d,r,rfl,h1,h2⟩:=hasAllW_cons f;obtain rfl:=hasAllW_nil h2;obtain⟨xs,rfl,i⟩:=hasW_list h1;obtain⟨ns,rfl⟩:=items_int i;have b:ns.length<=n:=by
  unfold OpenLaw.pre at hc;have c:(WTm.not (.lt (.lit (.int (n:Int))) (.len (.arg 0)))).holds [] {args:=[.list (ns.map .int)]}=true:=by
   have c:=(holds_andW hc).1;rw[o] at c;exact c
  have e:=condW_of c (w_not (w_lt w_lit (w_len_list (w_arg rfl))));rw[Ab] at e;refine Nat.le_of_not_lt fun q=>?_;have j:(n:Int)<((ns.length:Nat):Int):=ω
  first
   |(rw[decide_eq_true j] at e;exact absurd e ξ)
   |(simp at e;omega)
 cases p with
 |cons w1 w2=>
  cases w2;cases w1 with
  |list ho hall=>exact⟨_,_,ns,rfl,rfl,ho,Jm ns _ hall,b⟩
def Jo(l:OpenLaw)(args:List WData):l.row.toRowW.claim.post args (.bool true) args=true:=
 postW_of (r:=l.row.toRowW) (X:=(true==true))
  (show WShape.has [] (.bool true) .bool=true by first|rfl|decide|simp[WShape.has,WShape.arms,WShape.armsAll])
  (show(WTm.eq .res (.lit (.bool true))).value [] {args:=args,res:=some (.bool true),after:=args}=some (.bool (true==true)) from w_eq_bool (w_res rfl) w_lit) rfl
def Jp{l:OpenLaw}{n:Nat}{q:Program}{p:List Str}{s:(Str->Option Value)->Heap->Prop}{u:World->Heap->Prop}{d:DefRec}(J:l.most=some n)(L:d.params.defaults=[])(call:∀(w:World)(s₀ b:Shared)(mg g:Str->Option Value)(fa:Addr)(o:Obj)(h e i:Value)(a:Addr)(vs:List Value)(ns:List Int),
   Ground q p [] s w s₀ mg g b.heap->u w b.heap->
   b.heap.get? fa=some o->o.data=.func (docDef d.name d.params d.body d.scope h e i)->b.heap.CodeRec e d.name->mg d.name=some (.ref fa)->
   b.heap.get? a=some {cls:=.type "list",data:=.seq vs.toArray}->IntsAre vs ns->ns.length<=n->b.gens=#[]->
   codeAny (model l.prog w) callerA (.call (.ref fa) ⟨[.ref a],[]⟩) (fun r s'=>r=.ok (.ret (.bool true))/\OldK b.heap s'.heap/\s'.os=b.os/\AllBare s'.gens) b):
  WalkO q p s u l.row.toRowW d [] (fun f vs=>PySem.call f vs):=by
 intro w s₀ b mg g G Y fa o h e i v kV x hd y j z A args vals as C M N D O;obtain rfl:v=.none:=Dflts.none j L;obtain rfl:kV=.none:=Dflts.noKw j;obtain⟨a,vs,ns,rfl,rfl,E,F,c⟩:=Jn J C D;refine enter_call (Bc (call w s₀ b mg g fa o h e i a vs ns G Y x (fd_plain hd) y z E F c A) fun r s' hq=>?_);obtain⟨rfl,h2,H,I⟩:=hq;exact⟨.inl ⟨.bool true,.bool true,[],rfl,fun _=>rfl,.bool true,Jo l _,fun _=>⟨List.Pairwise.nil,fun _ hm=>(nomatch hm)⟩⟩,h2,H,I⟩
section
variable{prog:Program}{w:World}{A:Around}{E:Ω}{s:Shared}{K:Frag}
def ledger(h:Heap)(L d:Addr):Ψ:=(Ba h.objs.size).filterMap fun a=>if a=L\/a=d then none else(h.get? a).map fun o=>(a,o)
end
end Att
namespace L2
open PySem PySem.Spec PyProof.Rows
def DT:∀{vs:List Value}{ns:List Int},IntsAre vs ns->Vals (ns.map V.int) vs
 |_,_,.nil=>.nil
 |_,_,.cons n t h=>.cons ⟨t,rfl⟩ (DT h)
def jW(H:Hp):Prop:=∀b,H b=none\/∃o xs,H b=some (.frz o (.lst xs))
def Jq{P:Program}{w:World}{K:Ae}{mg y:Str->Option Value}{CX:eu}{k:Nat}{fa a:Addr}{fd:FuncData}{x:Str}{sp:Sp}{c:Shared}{vs:List Value}{ns:List Int}(M:K.In c.heap)(J:c.heap.Ns mainGlobals mg)(hb:c.heap.Ns builtinsNs y)(Z:∀x:Str,x≠"__name__"->y x=AX x)(nZ:c.heap.NoLimit)(hg:c.gens=#[])(l:c.heap.get? a=some {cls:=.type "list",data:=.seq vs.toArray})(hi:IntsAre vs ns)(L:ns.length<=sizeLine)(hr:Room k callerA)(F:∀base:Heap,K.In base->base.Ns mainGlobals mg->FnOk P w K mg base CX k fa fd [x] sp)(jC:∀(s:Shared)(u:Value),BindsTo s fd ⟨[u],[]⟩ [(x,u)])(c8:∀H:Hp,jW H->SqL K H a (ns.map V.int)->sp [.ref a] H (fun v _=>v=.bl true) fun _ _ _=>False)(nE:∀H e s',CX [] H c (fun _ _ _=>False) e s'->False):codeAny (model P w) callerA (.call (.ref fa) ⟨[.ref a],[]⟩) (fun r s'=>r=.ok (.ret (.bool true))/\OldK c.heap s'.heap/\s'.os=c.os/\AllBare s'.gens) c:=by
 have D:=DT hi;have T:=hi.length;have E:∀H:Hp,jW H->SqL K H a (ns.map V.int)->HOk P w H c.heap->(∀b,H b≠none->b=a)->(H a≠none->K.lookup a=none)->
   codeAny (model P w) callerA (.call (.ref fa) ⟨[.ref a],[]⟩) (fun r s'=>r=.ok (.ret (.bool true))/\OldK c.heap s'.heap/\s'.os=c.os/\AllBare s'.gens) c:=by
  intro H A N g C O;have G:∀{b:Addr}{o:Obj},c.heap.get? b=some o->H b=none->(db c.heap H).get? b=some o:=fun e n=>HX e n;have U:∀{b:Addr}{o:Obj}{es:Array DictEntry}{ep:Nat},c.heap.get? b=some o->o.data=.dict es ep->H b=none:=fun{b o es ep} e d=>by
   cases q:H b with
   |none=>rfl
   |some u=>
    have p:b=a:=C b (by rw[q];simp);subst p;rw[l] at e;cases e;have d':Data.seq vs.toArray _=Data.dict es ep:=d;cases d'
  have f:∀{b:Addr}{m:Str->Option Value},c.heap.Ns b m->(db c.heap H).Ns b m:=fun{b m} ⟨o,es,ep,e,d,r⟩=>⟨o,es,ep,G e (U e d),d,r⟩;have I:K.In (db c.heap H):=fun b o e=>G (M b o e) (by
   cases q:H b with
   |none=>rfl
   |some u=>
    have p:b=a:=C b (by rw[q];simp);subst p;rw[O (by rw[q];simp)] at e;cases e)
  have W:Mod K mg (db c.heap H):=⟨I,f J,⟨y,f hb,Z⟩,let ⟨mc,h1,h2⟩:=nZ;⟨mc,f h1,h2⟩⟩;have X:Env0 P w K mg (db c.heap H) callerA [] c H:=⟨rfl,W,fun b o e=>HY e,Nat.le_of_eq (HW _ _),trivial,fun b hb=>absurd (show b∈([]:List Addr) from hb) (by simp),g,.of_eq hg⟩;refine Bc ((F _ I (f J)).run callerA [] c H ⟨[.ref a],[]⟩ [.ref a] [.ref a] _ _ hr X (jC c (.ref a)) (.cons rfl .nil) (c8 H A N)) fun r s' h=>?_;cases r with
  |error e=>exact(nE H e s' h).elim
  |ok fl=>
   cases fl with
   |next=>exact False.elim h
   |brk=>exact False.elim h
   |cont=>exact False.elim h
   |ret u=>
    obtain⟨v,H',os,i,un,Q,S,q⟩:=h;have Y:v=.bl true:=q;subst Y;obtain rfl:u=Value.bool true:=S;refine⟨rfl,OldK.of_keep fun b o e=>?_,os,i⟩;cases q:H b with
    |none=>exact un.keep b o e q (by intro z;exact absurd (show b∈([]:List Addr) from z) (by simp)) (by simp)
    |some u=>
     rcases A b with z|⟨ob,xs,z⟩
     ·rw[q] at z;cases z
     ·have z2:=un.frzs b ob _ z
      obtain⟨e1,_⟩:=g b _ z;obtain⟨e2,_⟩:=Q b _ z2;rw[e] at e1;cases e1;exact e2
 cases hk:K.lookup a with
 |some o=>
  have e:=M a o hk;rw[l] at e;cases e;refine E (fun _=>none) (fun _=>.inl rfl) (.inr ⟨_,vs.toArray,_,hk,rfl,rfl,rfl,by rw[Aj,T];exact L,by simpa using D⟩) (fun b u z=>by have j:(none:Option HO)=some u:=z;cases j) (fun b z=>absurd rfl z) fun z=>absurd rfl z
 |none=>
  refine E (fun b=>if b=a then some (.frz {cls:=.type "list",data:=.seq vs.toArray} (.lst (ns.map V.int))) else none) (fun b=>?_) (.inl (.inr ⟨{cls:=.type "list",data:=.seq vs.toArray},if_pos rfl⟩)) (fun b u z=>?_) (fun b z=>?_) fun _=>hk
  ·by_cases hb:b=a
   ·exact .inr ⟨_,_,if_pos hb⟩
   ·exact .inl (if_neg hb)
  ·by_cases hb:b=a
   ·have j:=(if_pos hb).symm.trans z
    cases j;subst hb;exact⟨l,by rw[Ab];exact L,vs,_,D,l⟩
   ·have j:=(if_neg hb).symm.trans z
    cases j
  ·by_cases hb:b=a
   ·exact hb
   ·exact absurd (if_neg hb) z
abbrev DU{K:Ae}{h:Heap}(_:K.In h):Ae:=K
def DW{l:PySem.W.OpenLaw}{n k:Nat}{q:Program}{I:List Str}{Q:(Str->Option Value)->Heap->Prop}{j:World->Heap->Prop}{d:DefRec}{K:Params->Ae}{CX:World->eu}{sp:World->Sp}{x:Str}(J:l.most=some n)(L:n<=sizeLine)(M:d.params.defaults=[])(hr:Room k callerA)(N:∀(w:World)(h:Heap),j w h->(K w.params).In h)(F:∀(w:World)(mg:Str->Option Value)(fa:Addr)(h:Heap),(K w.params).In h->h.Ns mainGlobals mg->mg d.name=some (.ref fa)->
   ∃fd:FuncData,(∀(s:Shared)(u:Value),BindsTo s fd ⟨[u],[]⟩ [(x,u)])/\
    ∀base:Heap,(K w.params).In base->base.Ns mainGlobals mg->FnOk l.prog w (K w.params) mg base (CX w) k fa fd [x] (sp w))
  (O:∀(w:World)(H:Hp)(a:Addr)(ns:List Int),ns.length<=n->jW H->SqL (K w.params) H a (ns.map V.int)->sp w [.ref a] H (fun v _=>v=.bl true) fun _ _ _=>False)
  (P:∀(w:World)(H:Hp)(s:Shared)(e:Value)(s':Shared),CX w [] H s (fun _ _ _=>False) e s'->False) :
  PySem.W.WalkO q I Q j l.row.toRowW d [] (fun f vs=>PySem.call f vs):=by
 refine Att.Jp J M fun w s₀ p mg S fa o U X Z a vs ns G Y ho hd bY r y z c A=>?_;have i:=N w _ Y;obtain⟨fd,hb,E⟩:=F w mg fa _ i G.T.g r;exact Jq i G.T.g G.T.b G.T.builtins G.T.nolimit A y z (AO c L) hr E hb (fun H C D=>O w H a ns c C D) fun H e s'=>P w H p e s'
end L2
/- THE LAST THEOREM (shape;LID,My.* are yours):
  My.Adr: a structure of kR addresses that your layer names (classes,functions);My.Txt K t: a structure (Prop) of kR equations over K;
  My.txt_mk:{K} {implicit addresses ..} (e1:nsIn K mainGlobals "law"=some (some (.ref f))) (e2:K.lookup f=some ⟨oc,od,.func (fnOf "law" "law" bj body scope dV kV bd pm an cdv ct),sl⟩) (e3:codeIn K cdv "law"=true) ..:∃t,My.Txt K t
set_option maxRecDepth 100000 in
set_option maxHeartbeats 0 in
theorem PySem.Challenge.cw_LID_holds:PySem.Challenge.rw_LID.Holds := by
 w_on;o_law;k_head;(case hw=>w_witness2)
 k_fill
 refine L2.DW (l:=PySem.Challenge.rw_LID) (n:=63) (k:=40) (x:="script") (CX:=fun w=>..) (sp:=fun _=>My.sp_law) rfl ξ rfl ⟨rfl,ξ,ξ⟩ (fun w h Y=>PySem.W.kIn_of Y) ?F ?S ?C
 case F=>
  intro w mg fa h f G g;have T:∃t,My.Txt (L2.DU f) t:=by
   dsimp only[L2.DU]                          -- K must cD as «<heap const> w.params» for k_is
   refine' My.txt_mk ?e1 ?e2 ?e3 ..
   (case e1 => PySem.W.k_is)                    -- in e ap: a name -> ae address -> ae object -> ae parts
   (case e2=>PySem.W.k_is)
   ..
  obtain⟨t,T⟩:=T;have i:=g.symm.trans (PySem.W.mg_of f G T.law);cases i                                       -- fa is e law's own address
  exact⟨_,fun s u => .of_eq rfl,fun base c d => My.law_fn T c d⟩     -- if «.of_eq rfl» comes too early: refine' ⟨_,?b,fun base c d => My.law_fn T c d⟩;exact fun s u => .of_eq rfl
 case S=>exact fun w H a ns j o p=>..
 case C=>exact ..
(e tactic k_is has q namespace: write k_is) -/
namespace L2
open PySem PySem.Spec PyProof.Rows
def zb8(s:Stmt):Arguments:=match s with
 |.FunctionDef _ a _ _ _ _ _ _ _ _=>a
 |_=>{posonlyargs:=[],args:=[],vararg:=none,kwonlyargs:=[],kw_defaults:=[],kwarg:=none,defaults:=[]}
def zP(s:Stmt):List Stmt:=match s with
 |.FunctionDef _ _ b _ _ _ _ _ _ _=>b
 |_=>[]
def zb(s:Stmt):Scope:=match s with
 |.FunctionDef _ _ _ _ _ _ sc _ _ _=>sc
 |_=>{kind:=.function,names:=[],isGenerator:=false,isCoroutine:=false}
abbrev aw:eu:=fun _ _ _ _ _ _=>False
abbrev E0:XK:=fun _ _ _=>False
def am{X:Cx}:cF aw X E0:=fun _ _ _ _ _ _ _ h=>h.elim
structure Fun(K:Ae)(x aj:Str)(st:Stmt)(f:Addr)(fd:FuncData):Prop where
 ex:∃(oc:Value)(od:Option Addr)(kV bd pm:Value)(an:Option Addr)(cdv ct:Value)(dJ:Array (Option Value)),
  fd=PySem.W.fnOf x aj (zb8 st) (zP st) (zb st) .none kV bd pm an cdv ct/\K.lookup f=some ⟨oc,od,.func fd,dJ⟩/\PySem.W.codeIn K cdv aj=true
 kp:PySem.W.keepIn K (.ref f)=true
section
variable{P:Program}{w:World}{K:Ae}{mg:Str->Option Value}{base:Heap}
def Fun.ok{x a:Str}{st:Stmt}{f:Addr}{fd:FuncData}{N ps:List Str}{k:Nat}{sp:Sp}(F:Fun K x a st f fd)(S:zn N ps (zb st))(len:∀vs H Q E,sp vs H Q E->vs.length=ps.length)(d:∀(cdv:Value)(A:Around)(outer:List Env)(s:Shared)(H:Hp)(vs:List V)(Q:VK)(E:XK),Room k (A.deeper (envOfC a (zb st) s⁻¹ f cdv))->sp vs H Q E->
   ∃t,PSs (bh aw P w K mg base N a (zb st) f cdv A outer s H E).nox (zP st) t/\t {nx:=fun _ H'=>Q .non H',rt:=Q} (start N vs) H):FnOk P w K mg base aw (k+1) f fd ps sp:=by
 obtain⟨e,g,kV,i,j,l,cdv,ct,o,rfl,lk,c⟩:=F.ex;refine Dv lk c S len fun A outer s H vs Q E hr b=>?_;obtain⟨t,h,q⟩:=d cdv A outer s H vs Q E hr b;exact⟨t,h.nox,q⟩
def Fun.binds{x d:Str}{st:Stmt}{f:Addr}{fd:FuncData}{ps:List Str}(F:Fun K x d st f fd)(h:∀(kV a b:Value)(c:Option Addr)(cdv ct:Value)(us:List Value),us.length=ps.length->bindArgs (PySem.W.fnOf x d (zb8 st) (zP st) (zb st) .none kV a b c cdv ct) ⟨us,[]⟩=pure (ps.zip us)):Binds K fd ps []:=by
 obtain⟨e,g,kV,a,b,c,cdv,ct,i,rfl,lk,j⟩:=F.ex;exact .all (h kV a b c cdv ct)
def Jr{x a:Str}{st:Stmt}{f:Addr}{h:Value}{i e:Option Addr}{g:Array (Option Value)}{kV b d cdv ct:Value}(l:K.lookup f=some ⟨h,i,.func (PySem.W.fnOf x a (zb8 st) (zP st) (zb st) .none kV b d e cdv ct),g⟩)(c:PySem.W.codeIn K cdv a=true)(k:PySem.W.keepIn K (.ref f)=true):Fun K x a st f (PySem.W.fnOf x a (zb8 st) (zP st) (zb st) .none kV b d e cdv ct):=⟨⟨h,i,kV,b,d,e,cdv,ct,g,rfl,l,c⟩,k⟩
end
def dr{A:Around}{k:Nat}(hr:Room k A):A.units+1<cLine:=Nat.lt_of_le_of_lt (Nat.add_le_add_left (by decide:1<=64) _) hr.units
section
variable{X:Cx}
def pv(i:Nat){x:Str}{pos:Pos}(a:X.N[i]?=some x:=by rfl)(b:me X.env.scope x:=by first|exact Or.inl rfl|exact Or.inr (Or.inl rfl)|exact Or.inr (Or.inr rfl))(hd:(x==("__debug__":Str))=false:=by decide)
  (c:(x==("__classdict__":Str))=false:=by decide):PE X (.Name x pos) (ax i):=H_ a b hd c
end
def aH{A B:Prop}(h:B):if false=true then A else B:=by
 rw[if_neg Aq];exact h
def aX{A B:Prop}(h:A):if true=true then A else B:=by
 rw[if_pos rfl];exact h
def bc{c A B:Prop}[Decidable c](h1:c->A)(h2:¬c->B):if c then A else B:=by
 by_cases h:c
 ·rw[if_pos h]
  exact h1 h
 ·rw[if_neg h]
  exact h2 h
def Same(H H':Hp):Prop:=∀b o,H b=some o->H' b=some o
def Same.refl(H:Hp):Same H H:=fun _ _ h=>h
def Same.trans{H H1 H2:Hp}(a:Same H H1)(b:Same H1 H2):Same H H2:=fun c o h=>b c o (a c o h)
def Same.free{H H':Hp}(e:Same H H'){l:Addr}(h:H' l=Option.none):H l=Option.none:=by
 cases q:H l with
 |none=>rfl
 |some o=>
  rw[e l o q] at h;cases h
def Same.seq{K:Ae}{H H':Hp}{a:Addr}{xs:List V}(e:Same H H')(h:SqL K H a xs):SqL K H' a xs:=by
 rcases h with (h|⟨o,h⟩)|h
 ·exact .inl (.inl (e _ _ h))
 ·exact .inl (.inr ⟨o,e _ _ h⟩)
 ·exact .inr h
end L2
end
section
namespace Tim
open PySem PyProof.Rows
def R(ρ:Keyed->Int)(xs:Array Keyed)(i:Nat):Int:=match xs[i]? with
 |some p=>ρ p
 |none=>0
def nG{ρ:Keyed->Int}{xs ys:Array Keyed}{i j:Nat}(h:xs[i]?=ys[j]?):R ρ xs i=R ρ ys j:=by unfold R;rw[h]
def iG{ρ:Keyed->Int}{xs:Array Keyed}{i:Nat}{p:Keyed}(h:xs[i]?=some p):R ρ xs i=ρ p:=by unfold R;rw[h]
def bg(ρ:Keyed->Int)(xs:Array Keyed)(lo hi:Nat):Prop:=∀i j,lo<=i->i<=j->j<hi->R ρ xs i<=R ρ xs j
def kY(ρ:Keyed->Int)(xs:Array Keyed)(lo hi:Nat):Prop:=∀i j,lo<=i->i<=j->j<hi->R ρ xs j<=R ρ xs i
def w5{ρ:Keyed->Int}{xs:Array Keyed}{i j:Nat}(a:j<=xs.size)(k:Nat):R ρ (mirror xs i j ((j-i) / 2)) k=if i<=k/\k<j then R ρ xs (i+j-1-k) else R ρ xs k:=by
 have e:=getElem?_mirror_all (i:=i) a k
 by_cases h1:i<=k/\k<j
 ·rw[if_pos h1] at e ⊢;exact nG e
 ·rw[if_neg h1] at e ⊢;exact nG e
def zX{ρ:Keyed->Int}{xs:Array Keyed}{i j:Nat}(b:j<=xs.size)(a:∀k,i<=k->k<j->R ρ xs k=R ρ xs (j-1))(k:Nat):R ρ (mirror xs i j ((j-i) / 2)) k=R ρ xs k:=by
 rw[w5 b];split
 ·rw[a _ ω ω,a k ω ω]
 ·rfl
def DX{ρ:Keyed->Int}{xs:Array Keyed}{src d:Nat}(hs:src<xs.size)(hd:d<=src)(k:Nat):R ρ (bubble xs src d) k=if k=src-d then R ρ xs src else if src-d<k/\k<=src then R ρ xs (k-1) else R ρ xs k:=by
 have e:=getElem?_bubble hs d hd k
 by_cases h1:k=src-d
 ·rw[if_pos h1] at e ⊢;exact nG e
 ·rw[if_neg h1] at e ⊢
  by_cases h2:src-d<k/\k<=src
  ·rw[if_pos h2] at e ⊢;exact nG e
  ·rw[if_neg h2] at e ⊢;exact nG e
structure eU(prog:Program)(w:World)(A:Around)(s:Shared)(κ:SortKind)(a₀:Array Keyed)(ρ:Keyed->Int):Prop where
 lt:∀x y,x∈a₀.toList->y∈a₀.toList->∀(Q:Bool->Shared->Prop)(E:Ω),Q (decide (ρ x<ρ y)) s->wpAny (model prog w) A (keyLt' κ x.1 y.1) Q E s
structure B(κ:SortKind)(a₀:Array Keyed)(st:SortSt):Prop where
 perm:(arrOf st).Perm a₀
 kind:kindOf st=κ
 failed:failedOf st=none
def B.size{κ:SortKind}{a₀:Array Keyed}{st:SortSt}(h:B κ a₀ st):(arrOf st).size=a₀.size:=h.perm.size_eq
def B.setArr{κ:SortKind}{a₀:Array Keyed}{st:SortSt}(h:B κ a₀ st){xs:Array Keyed}(hp:xs.Perm (arrOf st)):B κ a₀ (setArr st xs):=⟨hp.trans h.perm,h.kind,h.failed⟩
def B.mem{κ:SortKind}{a₀:Array Keyed}{st:SortSt}(h:B κ a₀ st){p:Keyed}(hp:p∈(arrOf st).toList):p∈a₀.toList:=(Array.perm_iff_toList_perm.mp h.perm).mem_iff.mp hp
def DY{xs:Array Keyed}{i:Nat}(hi:i<xs.size):∃p,xs[i]?=some p/\p∈xs.toList:=⟨xs[i],getElem?_pos _ i hi,by simp⟩
structure Pre(lo:Nat)(st ah:SortSt):Prop where
 arr:∀k,k<lo->(arrOf ah)[k]?=(arrOf st)[k]?
 pend:pendingOf ah=pendingOf st
def Pre.refl{lo:Nat}{st:SortSt}:Pre lo st st:=⟨fun _ _=>rfl,rfl⟩
def Pre.trans{lo:Nat}{a b c:SortSt}(x:Pre lo a b)(y:Pre lo b c):Pre lo a c:=⟨fun k h=>(y.arr k h).trans (x.arr k h),y.pend.trans x.pend⟩
def Pre.mir{lo i j:Nat}{st:SortSt}(a:j<=(arrOf st).size)(hi:lo<=i):Pre lo st (setArr st (mirror (arrOf st) i j ((j-i) / 2))):=
 ⟨fun k h=>by show(mirror _ _ _ _)[k]?=_;rw[getElem?_mirror_all a,if_neg ω],rfl⟩
def Pre.bub{lo src d:Nat}{st:SortSt}(hs:src<(arrOf st).size)(hd:d<=src)(a:lo<=src-d):Pre lo st (setArr st (bubble (arrOf st) src d)):=
 ⟨fun k h=>by show(bubble _ _ _)[k]?=_;rw[getElem?_bubble hs d hd,if_neg ω,if_neg ω],rfl⟩
section
variable{prog:Program}{w:World}{A:Around}{E:Ω}{s:Shared}{κ:SortKind}{a₀:Array Keyed}{ρ:Keyed->Int}
def Js(C:eU prog w A s κ a₀ ρ){st:SortSt}(a:B κ a₀ st){x y:Keyed}(hx:x∈a₀.toList)(hy:y∈a₀.toList){Q:Option Bool->SortSt->Prop}(h:Q (some (decide (ρ x<ρ y))) st):wpS (model prog w) A E s (lt' x y) Q st:=by
 rw[lt'_eq];refine wpS_bind (wpS_get ?_);rw[a.kind];refine wpS_bind (wpS_lift (wpAny_attempt (C.lt x y hx hy _ _ ⟨rfl,?_⟩)));exact wpS_pure h
def DZ{st:SortSt}{xs:Array Keyed}{i:Nat}{p:Keyed}(h:xs[i]?=some p){Q:Keyed->SortSt->Prop}(hq:Q p st):wpS (model prog w) A E s (elem' xs i) Q st:=by
 rw[elem'_eq,h];exact wpS_pure hq
def nH(C:eU prog w A s κ a₀ ρ){st:SortSt}(a:B κ a₀ st){i j:Nat}(hi:i<a₀.size)(c:j<a₀.size){Q:Option Bool->SortSt->Prop}(h:Q (some (decide (R ρ (arrOf st) i<R ρ (arrOf st) j))) st):wpS (model prog w) A E s (ltAt' i j) Q st:=by
 obtain⟨p,e1,b⟩:=DY (xs:=arrOf st) (i:=i) (by rw[a.size];exact hi);obtain⟨q,e2,m2⟩:=DY (xs:=arrOf st) (i:=j) (by rw[a.size];exact c);rw[ltAt'_eq];refine wpS_bind (wpS_get ?_);show wpS _ _ _ _ (do let x <-elem' (arrOf st) i;let y <-elem' (arrOf st) j;lt' x y) Q st;refine wpS_bind (DZ e1 (wpS_bind (DZ e2 (Js C a (a.mem b) (a.mem m2) ?_))));rw[iG e1,iG e2] at h;exact h
def asc(lo a b:Nat):StateT SortSt Sem AscSt:=
 forIn [a:b] ((none,a):AscSt) fun _ __s=>do
  let __x <-ltAt' (lo+__s.snd) (lo+__s.snd-1)
  match __x with
  |some smaller=>if smaller=true then pure (ForInStep.done (none,__s.snd)) else pure (ForInStep.yield (none,__s.snd+1))
  |_=>pure (ForInStep.done (some none,__s.snd))
def nN(lo n a:Nat):StateT SortSt Sem (Option Nat):=do
 reverseSlice' lo (lo+n)
 let __s <-asc lo n a
 match __s.fst with
 |some r=>pure r
 |none=>pure (some __s.snd)
def q3(lo n a:Nat):StateT SortSt Sem DescSt:=
 forIn [n:a] ((none,n,0):DescSt) fun _ __s=>do
  let __x <-ltAt' (lo+__s.snd.fst) (lo+__s.snd.fst-1)
  match __x with
  |some smaller=>
   if smaller=true then
    if __s.snd.snd>0 then do
     reverseSlice' (lo+__s.snd.fst-(__s.snd.snd+1)) (lo+__s.snd.fst)
     pure (ForInStep.yield (none,__s.snd.fst+1,0))
    else pure (ForInStep.yield (none,__s.snd.fst+1,0))
   else do
    let __x <-ltAt' (lo+__s.snd.fst-1) (lo+__s.snd.fst)
    match __x with
    |some larger=>
     if larger=true then pure (ForInStep.done (none,__s.snd.fst,__s.snd.snd))
     else pure (ForInStep.yield (none,__s.snd.fst+1,__s.snd.snd+1))
    |_=>pure (ForInStep.done (some none,__s.snd.fst,__s.snd.snd))
  |_=>pure (ForInStep.done (some none,__s.snd.fst,__s.snd.snd))
def nO(lo n a:Nat):StateT SortSt Sem (Option Nat):=do
 liftM (rule "list.sort.descending-run")
 let __s <-q3 lo (n+1) a
 match __s.fst with
 |some r=>pure r
 |none=>
  if __s.snd.snd>0 then do
   reverseSlice' (lo+__s.snd.fst-(__s.snd.snd+1)) (lo+__s.snd.fst)
   nN lo __s.snd.fst a
  else nN lo __s.snd.fst a
def a6{b c:Type}{m:StateT SortSt Sem b}{f g:b->StateT SortSt Sem c}(h:∀a,f a=g a):(m >>= f)=(m >>= g):=by
 have e:f=g:=funext h;rw[e]
def Jt(lo d:Nat):countRun' lo d=(do
  let __s <-asc lo 1 d
  match __s.fst with
  |some r=>pure r
  |none=>
   if(__s.snd==d)=true then pure (some __s.snd)
   else if __s.snd>1 then do
    let __x <-ltAt' lo (lo+__s.snd-1)
    match __x with
    |some rose=>if rose=true then pure (some __s.snd) else do
      reverseSlice' lo (lo+__s.snd)
      nO lo __s.snd d
    |_=>pure none
   else nO lo __s.snd d):=by
 rw[countRun'_eq];unfold nO nN q3 asc;refine a6 fun g=>?_;obtain⟨r,n⟩:=g;cases r with
 |some r=>rfl
 |none=>
  dsimp only;split
  ·rfl
  ·split
   ·refine a6 fun x=>?_
    cases x with
    |none=>rfl
    |some rose=>
     dsimp only;split
     ·rfl
     ·refine a6 fun _r=>a6 fun _u=>a6 fun e=>?_
      obtain⟨c,n2,h⟩:=e;cases c with
      |some c=>rfl
      |none=>
       dsimp only;split
       ·refine a6 fun _v=>a6 fun _w=>a6 fun a=>?_
        obtain⟨b,f⟩:=a;cases b<;>rfl
       ·refine a6 fun _w=>a6 fun a=>?_
        obtain⟨b,f⟩:=a;cases b<;>rfl
   ·refine a6 fun _u=>a6 fun e=>?_
    obtain⟨c,n2,h⟩:=e;cases c with
    |some c=>rfl
    |none=>
     dsimp only;split
     ·refine a6 fun _v=>a6 fun _w=>a6 fun a=>?_
      obtain⟨b,f⟩:=a;cases b<;>rfl
     ·refine a6 fun _w=>a6 fun a=>?_
      obtain⟨b,f⟩:=a;cases b<;>rfl
def D0(C:eU prog w A s κ a₀ ρ){st:SortSt}{lo a d:Nat}{Q:AscSt->SortSt->Prop}(D:lo+d<=a₀.size)(F:1<=a)(u:a<=d)(v:B κ a₀ st)(hs:bg ρ (arrOf st) lo (lo+a))(h:∀n,a<=n->n<=d->bg ρ (arrOf st) lo (lo+n)->(n=d\/R ρ (arrOf st) (lo+n)<R ρ (arrOf st) (lo+n-1))->Q (none,n) st):wpS (model prog w) A E s (asc lo a d) Q st:=by
 unfold asc;refine wpS_forRange (I:=fun x c f=>f=st/\c=(none,x)/\bg ρ (arrOf st) lo (lo+x)) ?step ?fin ⟨rfl,rfl,hs⟩
 case fin=>
  rintro c f ⟨rfl,rfl,e⟩;rw[show max a d=d from ω] at e ⊢;exact h d u (Ag _) e (.inl rfl)
 case step=>
  rintro x c f r z ⟨rfl,rfl,e⟩;dsimp only;refine wpS_bind (nH C v ω ω ?_)
  by_cases b:R ρ (arrOf f) (lo+x)<R ρ (arrOf f) (lo+x-1)
  ·simp only[b,decide_true,if_true]
   exact wpS_pure (h x r ω e (.inr b))
  ·simp only[b,decide_false,Ah,if_false]
   refine wpS_pure ⟨rfl,rfl,fun i j q g y=>?_⟩
   by_cases o:j<lo+x
   ·exact e i j q g o
   ·have l:j=lo+x:=ω
    subst l
    by_cases p:i=lo+x
    ·subst p;exact Int.le_refl _
    ·exact Int.le_trans (e i (lo+x-1) q ω ω) (Int.not_lt.mp b)
def q4{st:SortSt}{i j:Nat}{Q:Unit->SortSt->Prop}(h:Q () (setArr st (mirror (arrOf st) i j ((j-i) / 2)))):wpS (model prog w) A E s (reverseSlice' i j) Q st:=by
 rw[reverseSlice'_eq];exact wpS_modify h
abbrev Got(κ:SortKind)(a₀:Array Keyed)(ρ:Keyed->Int)(lo ak:Nat)(st:SortSt)(Q:Option Nat->SortSt->Prop):Prop:=
 ∀m ah,B κ a₀ ah->Pre lo st ah->1<=m->m<=ak->bg ρ (arrOf ah) lo (lo+m)->Q (some m) ah
def D6(C:eU prog w A s κ a₀ ρ){st e:SortSt}{lo n a:Nat}{Q:Option Nat->SortSt->Prop}(o:lo+a<=a₀.size)(h1:1<=n)(c:n<=a)(f:B κ a₀ st)(p:Pre lo e st)(hs:kY ρ (arrOf st) lo (lo+n))(h:Got κ a₀ ρ lo a e Q):wpS (model prog w) A E s (nN lo n a) Q st:=by
 unfold nN;have hsz:lo+n<=(arrOf st).size:=by rw[f.size];omega
 refine wpS_bind (q4 ?_);have d:B κ a₀ (setArr st (mirror (arrOf st) lo (lo+n) ((lo+n-lo) / 2))):=f.setArr (mirror_perm _ _ _ _);refine wpS_bind (D0 C o h1 c d ?_ fun m q g b _=>wpS_pure (h m _ d (p.trans (.mir hsz (Ag _))) ω g b));intro i j r l u;show R ρ (mirror (arrOf st) lo (lo+n) ((lo+n-lo) / 2)) i<=R ρ (mirror (arrOf st) lo (lo+n) ((lo+n-lo) / 2)) j;rw[w5 hsz,w5 hsz,if_pos ω,if_pos ω];exact hs _ _ ω ω ω
def Ju(C:eU prog w A s κ a₀ ρ){st F:SortSt}{lo n u:Nat}{Q:DescSt->SortSt->Prop}(P:lo+u<=a₀.size)(h1:1<=n)(G:n<=u)(M:B κ a₀ st)(N:Pre lo F st)(hs:kY ρ (arrOf st) lo (lo+n))(h:∀m e a,B κ a₀ a->Pre lo F a->n<=m->m<=u->kY ρ (arrOf a) lo (lo+m)->e+1<=m->(∀i,lo+m-(e+1)<=i->i<lo+m->R ρ (arrOf a) i=R ρ (arrOf a) (lo+m-1))->Q (none,m,e) a):wpS (model prog w) A E s (q3 lo n u) Q st:=by
 unfold q3;refine wpS_forRange (I:=fun x c a=>∃e,c=(none,x,e)/\B κ a₀ a/\Pre lo F a/\kY ρ (arrOf a) lo (lo+x)/\e+1<=x/\
   (∀i,lo+x-(e+1)<=i->i<lo+x->R ρ (arrOf a) i=R ρ (arrOf a) (lo+x-1))) ?step ?fin ⟨0,rfl,M,N,hs,ω,fun i h1 h2=>by congr 1;omega⟩
 case fin=>
  rintro c a ⟨e,rfl,g,z,l,hq,he⟩;rw[show max n u=u from ω] at l hq he ⊢;exact h u e a g z G (Ag _) l hq he
 case step=>
  rintro x c a L O ⟨e,rfl,g,z,l,hq,he⟩;dsimp only;have hsz:lo+x<=(arrOf a).size:=by rw[g.size];omega
  refine wpS_bind (nH C g ω ω ?_)
  by_cases d:R ρ (arrOf a) (lo+x)<R ρ (arrOf a) (lo+x-1)
  ·simp only[d,decide_true,if_true]
   have f:∀xs:Array Keyed,(∀k,R ρ xs k=R ρ (arrOf a) k)->kY ρ xs lo (lo+(x+1)):=by
    intro xs hk i j D q J;rw[hk,hk]
    by_cases v:j<lo+x
    ·exact l i j D q v
    ·have r:j=lo+x:=ω
     subst r
     by_cases y:i=lo+x
     ·subst y;exact Int.le_refl _
     ·exact Int.le_trans (Int.le_of_lt d) (l i (lo+x-1) D ω ω)
   by_cases p:e>0
   ·rw[if_pos p]
    refine wpS_bind (q4 (wpS_pure ⟨0,rfl,g.setArr (mirror_perm _ _ _ _),z.trans (.mir hsz ω),f _ (zX hsz he),ω,fun i h1 h2=>by congr 1;omega⟩))
   ·rw[if_neg p]
    exact wpS_pure ⟨0,rfl,g,z,f _ (fun _=>rfl),ω,fun i h1 h2=>by congr 1;omega⟩
  ·simp only[d,decide_false,Ah,if_false]
   refine wpS_bind (nH C g ω ω ?_)
   by_cases b:R ρ (arrOf a) (lo+x-1)<R ρ (arrOf a) (lo+x)
   ·simp only[b,decide_true,if_true]
    exact wpS_pure (h x e a g z L ω l hq he)
   ·simp only[b,decide_false,Ah,if_false]
    have o:R ρ (arrOf a) (lo+x)=R ρ (arrOf a) (lo+x-1):=ω
    refine wpS_pure ⟨e+1,rfl,g,z,fun i j D q J=>?_,ω,fun i h1 h2=>?_⟩
    ·by_cases v:j<lo+x
     ·exact l i j D q v
     ·have r:j=lo+x:=ω
      subst r
      by_cases y:i=lo+x
      ·subst y;exact Int.le_refl _
      ·rw[o];exact l i (lo+x-1) D ω ω
    ·rw[show lo+(x+1)-1=lo+x from ω]
     by_cases H:i=lo+x
     ·subst H;rfl
     ·rw[o];exact he i ω ω
def D7(C:eU prog w A s κ a₀ ρ){st q:SortSt}{lo n b:Nat}{Q:Option Nat->SortSt->Prop}(f:lo+b<=a₀.size)(g:n+1<=b)(x:B κ a₀ st)(y:Pre lo q st)(hs:kY ρ (arrOf st) lo (lo+(n+1)))(h:Got κ a₀ ρ lo b q Q):wpS (model prog w) A E s (nO lo n b) Q st:=by
 unfold nO;refine wpS_bind (wpS_lift (wpAny_rule ⟨rfl,?_⟩));refine wpS_bind (Ju C f ω g x y hs fun m r c d l z o p hq he=>?_);dsimp only;have hsz:lo+m<=(arrOf c).size:=by rw[d.size];omega
 by_cases a:r>0
 ·rw[if_pos a]
  refine wpS_bind (q4 (D6 C f ω o (d.setArr (mirror_perm _ _ _ _)) (l.trans (.mir hsz ω)) ?_ h));intro i j u e v;show R ρ (mirror (arrOf c) _ _ _) j<=R ρ (mirror (arrOf c) _ _ _) i;rw[zX hsz he,zX hsz he];exact p i j u e v
 ·rw[if_neg a]
  exact D6 C f ω o d l p h
def Jv(C:eU prog w A s κ a₀ ρ){st:SortSt}{lo p:Nat}{Q:Option Nat->SortSt->Prop}(x:lo+p<=a₀.size)(h1:1<=p)(c:B κ a₀ st)(h:Got κ a₀ ρ lo p st Q):wpS (model prog w) A E s (countRun' lo p) Q st:=by
 rw[Jt];refine wpS_bind (D0 C x (Ag 1) h1 c (fun i j f g z=>by have:i=j:=ω;subst this;exact Int.le_refl _) fun n D F r G=>?_);dsimp only
 by_cases d:n=p
 ·rw[if_pos (by simpa using d)]
  exact wpS_pure (h n st c .refl D F r)
 ·rw[if_neg (by simpa using d)]
  have l:R ρ (arrOf st) (lo+n)<R ρ (arrOf st) (lo+n-1):=G.resolve_left d
  by_cases q:n>1
  ·rw[if_pos q]
   refine wpS_bind (nH C c ω ω ?_)
   by_cases b:R ρ (arrOf st) lo<R ρ (arrOf st) (lo+n-1)
   ·simp only[b,decide_true,if_true]
    exact wpS_pure (h n st c .refl D F r)
   ·simp only[b,decide_false,Ah,if_false]
    have hsz:lo+n<=(arrOf st).size:=by rw[c.size];omega
    have a:∀k,lo<=k->k<lo+n->R ρ (arrOf st) k=R ρ (arrOf st) (lo+n-1):=by
     intro k f hk;have I:=r lo k ω f hk;have J:=r k (lo+n-1) f ω ω;omega
    refine wpS_bind (q4 (D7 C x ω (c.setArr (mirror_perm _ _ _ _)) (.mir hsz (Ag _)) ?_ h));intro i j f g z;show R ρ (mirror (arrOf st) _ _ _) j<=R ρ (mirror (arrOf st) _ _ _) i;rw[zX hsz a,zX hsz a]
    by_cases y:j<lo+n
    ·rw[a i ω ω,a j ω y];exact Int.le_refl _
    ·have u:j=lo+n:=ω
     subst u
     by_cases e:i=lo+n
     ·subst e;exact Int.le_refl _
     ·rw[a i ω ω];exact Int.le_of_lt l
  ·rw[if_neg q]
   have o:n=1:=ω
   subst o;refine D7 C x ω c .refl ?_ h;intro i j f g z
   by_cases e:i=j
   ·subst e;exact Int.le_refl _
   ·have H:i=lo:=ω
    have v:j=lo+1:=ω
    subst H;subst v;exact Int.le_of_lt l
def Jw(C:eU prog w A s κ a₀ ρ){st:SortSt}{lo n ok:Nat}{Q:Bool->SortSt->Prop}(O:lo+n<=a₀.size)(L:ok<=n)(M:B κ a₀ st)(hs:bg ρ (arrOf st) lo (lo+ok))(h:∀a,B κ a₀ a->Pre lo st a->bg ρ (arrOf a) lo (lo+n)->Q true a):wpS (model prog w) A E s (binarySort' lo n ok) Q st:=by
 rw[binarySort'_eq];refine wpS_bind (wpS_mono (wpS_forRange (I:=fun k c a=>c=(none,())/\B κ a₀ a/\Pre lo st a/\bg ρ (arrOf a) lo (lo+min k n))
  (Q:=fun c a=>c=(none,())/\B κ a₀ a/\Pre lo st a/\bg ρ (arrOf a) lo (lo+n)) ?step ?fin ?init) ?post)
 case post=>
  rintro c a ⟨rfl,f,q,e⟩;exact wpS_pure (h a f q e)
 case init=>
  refine⟨rfl,M,.refl,fun i j z p D=>?_⟩
  by_cases h1:ok=0
  ·have:i=j:=ω
   subst this;exact Int.le_refl _
  ·exact hs i j z p ω
 case fin=>
  rintro c a ⟨hc,f,q,e⟩;refine⟨hc,f,q,?_⟩
  rwa [show min (max (max ok 1) n) n=n from ω] at e
 case step=>
  rintro k c a P N ⟨rfl,f,q,e⟩;rw[show min k n=k from ω] at e;have hk:lo+k<a₀.size:=ω
  refine wpS_bind (wpS_mono (wpS_forRange (I:=fun x c d=>d=a/\∃l r,c=(none,l,r)/\l<=r/\r<=k/\r-l<=k-x/\
    (∀i,i<l->R ρ (arrOf a) (lo+i)<=R ρ (arrOf a) (lo+k))/\(∀i,r<=i->i<k->R ρ (arrOf a) (lo+k)<R ρ (arrOf a) (lo+i)))
   (Q:=fun c d=>d=a/\∃l r,c=(none,l,r)/\l<=k/\
    (∀i,i<l->R ρ (arrOf a) (lo+i)<=R ρ (arrOf a) (lo+k))/\(∀i,l<=i->i<k->R ρ (arrOf a) (lo+k)<R ρ (arrOf a) (lo+i))) ?istep ?ifin ?iinit) ?ipost)
  case iinit=>exact⟨rfl,0,k,rfl,ω,ω,ω,fun i hi=>ω,fun i h1 h2=>ω⟩
  case ifin=>
   rintro c d ⟨rfl,l,r,rfl,F,v,hm,g,o⟩;have:l=r:=ω
   subst this;exact⟨rfl,l,l,rfl,v,g,o⟩
  case istep=>
   rintro x c d _ S ⟨rfl,l,r,rfl,F,v,hm,g,o⟩;dsimp only
   by_cases u:l ≥ r
   ·rw[if_pos u]
    have:l=r:=ω
    subst this;exact wpS_pure ⟨rfl,l,l,rfl,v,g,o⟩
   ·rw[if_neg u]
    refine wpS_bind (nH C f hk ω ?_)
    by_cases b:R ρ (arrOf d) (lo+k)<R ρ (arrOf d) (lo+(l+r) / 2)
    ·simp only[b,decide_true,if_true]
     refine wpS_pure ⟨rfl,l,(l+r) / 2,rfl,ω,ω,ω,g,fun i h1 h2=>?_⟩;exact Int.lt_of_lt_of_le b (e _ _ ω ω ω)
    ·simp only[b,decide_false,Ah,if_false]
     refine wpS_pure ⟨rfl,(l+r) / 2+1,r,rfl,ω,ω,ω,fun i h1=>?_,o⟩;exact Int.le_trans (e (lo+i) (lo+(l+r) / 2) ω ω ω) (Int.not_lt.mp b)
  case ipost=>
   rintro c d ⟨rfl,l,r,rfl,G,g,o⟩;show wpS _ _ _ _ (do moveDown' (lo+k) (lo+l);pure (ForInStep.yield (none,()))) _ _;rw[moveDown'_eq];have y:lo+k<(arrOf d).size:=by rw[f.size];exact hk
   refine wpS_bind (wpS_modify (wpS_pure ⟨rfl,f.setArr (bubble_perm _ _ _),q.trans (.bub y ω ω),?_⟩));rw[show min (k+1) n=k+1 from ω];intro i j z p D;show R ρ (bubble (arrOf d) (lo+k) (lo+k-(lo+l))) i<=R ρ (bubble (arrOf d) (lo+k) (lo+k-(lo+l))) j;rw[DX y ω,DX y ω,show lo+k-(lo+k-(lo+l))=lo+l from ω];have H:∀i,lo<=i->i<lo+l->R ρ (arrOf d) i<=R ρ (arrOf d) (lo+k):=fun i h1 h2=>by
    have:=g (i-lo) ω;rwa [show lo+(i-lo)=i from ω] at this
   have J:∀i,lo+l<=i->i<lo+k->R ρ (arrOf d) (lo+k)<R ρ (arrOf d) i:=fun i h1 h2=>by
    have:=o (i-lo) ω ω;rwa [show lo+(i-lo)=i from ω] at this
   repeat' split
   all_goals first
    |(exfalso;omega)
    |exact Int.le_refl _
    |exact H _ ω ω
    |exact Int.le_of_lt (J _ ω ω)
    |exact e _ _ ω ω ω
def Jx(C:eU prog w A s κ a₀ ρ){st:SortSt}{Q:Unit->SortSt->Prop}(F:B κ a₀ st)(hp:pendingOf st=#[])(h1:1<=a₀.size)(r:a₀.size<64)(h:∀a,B κ a₀ a->bg ρ (arrOf a) 0 a₀.size->Q () a):wpS (model prog w) A E s sortRuns' Q st:=by
 rw[sortRuns'_eq];refine wpS_bind (wpS_get ?_);dsimp only;have M:minRun' a₀.size a₀.size 0=a₀.size:=by
  obtain⟨f,hf⟩:∃f,a₀.size=f+1:=⟨a₀.size-1,ω⟩;have:minRun' (f+1) a₀.size 0=a₀.size:=by rw[minRun'_succ,if_pos r];rfl
  rwa [<-hf] at this
 simp only[F.size,M];refine wpS_bind (wpS_mono (wpS_forRange
  (I:=fun x c a=>(x=0/\c=(none,0)/\B κ a₀ a/\pendingOf a=#[])\/(1<=x/\c=(none,a₀.size)/\B κ a₀ a/\(pendingOf a).size<=1/\bg ρ (arrOf a) 0 a₀.size))
  (Q:=fun c a=>c=(none,a₀.size)/\B κ a₀ a/\(pendingOf a).size<=1/\bg ρ (arrOf a) 0 a₀.size) ?step ?fin (.inl ⟨rfl,rfl,F,hp⟩)) ?post)
 case fin=>
  rintro c a (⟨hx,_,_⟩|⟨_,hc,l⟩)
  ·omega
  ·exact⟨hc,l⟩
 case step=>
  rintro x c a _ hx (⟨rfl,rfl,o,y⟩|⟨O,rfl,l⟩)
  ·dsimp only
   rw[if_neg ω];simp only[Nat.sub_zero,Nat.min_self];refine wpS_bind (Jv C ω ω o fun m i u P2 N m2 j=>?_);dsimp only;have tl:∀d,B κ a₀ d->pendingOf d=#[]->bg ρ (arrOf d) 0 a₀.size->B κ a₀ (setPending d ((pendingOf d).push (0,a₀.size,0)))/\(pendingOf (setPending d ((pendingOf d).push (0,a₀.size,0)))).size<=1/\bg ρ (arrOf (setPending d ((pendingOf d).push (0,a₀.size,0)))) 0 a₀.size:=
    fun d b p q=>⟨⟨b.perm,b.kind,b.failed⟩,by show((pendingOf d).push _).size<=1;rw[p];exact Ag 1,q⟩
   by_cases g:m<a₀.size
   ·rw[if_pos g]
    refine wpS_bind (wpS_lift (wpAny_rule ⟨rfl,?_⟩));refine wpS_bind (Jw C ω m2 u j fun d G P3 v=>?_);simp only[A3,Ah,if_false];refine wpS_bind (wpS_get ?_);have z:pendingOf d=#[]:=by rw[P3.pend,P2.pend];exact y
    have hb:(pendingOf d).back?=none:=by rw[z];rfl
    rw[hb];dsimp only;simp only[Nat.zero_add] at v ⊢;exact wpS_bind (wpS_modify (wpS_pure (.inr ⟨ω,rfl,tl d G z v⟩)))
   ·rw[if_neg g]
    have hm:m=a₀.size:=ω
    subst hm;refine wpS_bind (wpS_get ?_);have D:pendingOf i=#[]:=by rw[P2.pend];exact y
    have hb:(pendingOf i).back?=none:=by rw[D];rfl
    rw[hb];dsimp only;simp only[Nat.zero_add] at j ⊢;exact wpS_bind (wpS_modify (wpS_pure (.inr ⟨ω,rfl,tl i u D j⟩)))
  ·dsimp only
   rw[if_pos (Ag _)];exact wpS_pure ⟨rfl,l⟩
 case post=>
  rintro c a ⟨rfl,o,J,L⟩;dsimp only;refine wpS_bind (wpS_mono (wpS_forRange (I:=fun _ c e=>e=a/\c=(none,())) (Q:=fun c e=>e=a/\c=(none,())) ?_ (fun _ _ H=>H) ⟨rfl,rfl⟩) ?_)
  ·rintro x c e _ _ ⟨rfl,rfl⟩
   refine wpS_bind (wpS_get ?_);rw[if_pos J];exact wpS_pure ⟨rfl,rfl⟩
  ·rintro c e ⟨rfl,rfl⟩
   exact wpS_pure (h _ o L)
end
end Tim
end
section
namespace bg
open PySem PyProof.Rows HT
def w6:∀a:List Int,lexLt a a=false
 |[]=>rfl
 |x::a=>by rw[zF,if_pos rfl];exact w6 a
def k4:∀{a b c:List Int},lexLt a b=true->lexLt b c=true->lexLt a c=true
 |[],[],_,h,_=>by cases h
 |[],_::_,[],_,h=>by cases h
 |[],_::_,_::_,_,_=>rfl
 |_::_,[],_,h,_=>by cases h
 |_::_,_::_,[],_,h=>by cases h
 |x::a,y::b,z::c,h1,h2=>by
  rw[zF] at h1 h2 ⊢
  by_cases e1:x=y
  ·rw[if_pos e1] at h1
   by_cases e2:y=z
   ·rw[if_pos e2] at h2
    rw[if_pos (e1.trans e2)];exact k4 h1 h2
   ·rw[if_neg e2] at h2
    rw[if_neg ω];have:=of_decide_eq_true h2;exact decide_eq_true ω
  ·rw[if_neg e1] at h1
   have d:=of_decide_eq_true h1
   by_cases e2:y=z
   ·rw[if_neg ω]
    exact decide_eq_true ω
   ·rw[if_neg e2] at h2
    have e:=of_decide_eq_true h2;rw[if_neg ω];exact decide_eq_true ω
def D8:∀{a b:List Int},lexLt a b=false->lexLt b a=false->a=b
 |[],[],_,_=>rfl
 |[],_::_,h,_=>by cases h
 |_::_,[],_,h=>by cases h
 |x::a,y::b,h1,h2=>by
  rw[zF] at h1 h2
  by_cases e:x=y
  ·subst e
   rw[if_pos rfl] at h1 h2;rw[D8 h1 h2]
  ·rw[if_neg e] at h1
   rw[if_neg (Ne.symm e)] at h2;have:=of_decide_eq_false h1;have:=of_decide_eq_false h2;omega
def rk(ls:Ξ)(l:List Int):Int:=((ls.filter fun m=>lexLt m l).length:Nat)
def D9{ls:Ξ}{l m:List Int}(f:l∈ls)(hm:m∈ls):decide (rk ls l<rk ls m)=lexLt l m:=by
 have mono:∀{a b:List Int},(∀x,lexLt x a=true->lexLt x b=true)->∀k:Ξ,(k.filter fun x=>lexLt x a).length<=(k.filter fun x=>lexLt x b).length:=by
  intro a b c k
  induction k with
  |nil=>exact Ag _
  |cons x k ih=>
   rw[List.filter_cons,List.filter_cons]
   by_cases q:lexLt x a=true
   ·rw[if_pos q,if_pos (c x q),Au,Au];omega
   ·rw[if_neg q]
    split
    ·rw[Au];omega
    ·exact ih
 have d:∀{a b:List Int},(∀x,lexLt x a=true->lexLt x b=true)->lexLt a b=true->∀k:Ξ,a∈k->(k.filter fun x=>lexLt x a).length<(k.filter fun x=>lexLt x b).length:=by
  intro a b c h k
  induction k with
  |nil=>intro q;cases q
  |cons x k ih=>
   intro hk;rw[List.filter_cons,List.filter_cons];rcases List.mem_cons.mp hk with e|e
   ·subst e
    rw[if_neg (by rw[w6];exact Aq),if_pos h,Au];have:=mono c k;omega
   ·have:=ih e
    by_cases q:lexLt x a=true
    ·rw[if_pos q,if_pos (c x q),Au,Au];omega
    ·rw[if_neg q]
     split
     ·rw[Au];omega
     ·exact this
 unfold rk;cases q:lexLt l m with
 |true=>
  have:=d (a:=l) (b:=m) (fun x hx=>k4 hx q) q ls f;exact decide_eq_true ω
 |false=>
  have:=mono (a:=m) (b:=l) (fun x hx=>by
   cases z:lexLt x l with
   |true=>rfl
   |false=>
    cases z2:lexLt l x with
    |true=>rw[k4 z2 hx] at q;cases q
    |false=>rw[D8 z z2] at hx;rw[hx] at q;cases q) ls
  exact decide_eq_false ω
structure By(prog:Program)(w:World)(A:Around)(good:Heap->Prop)(us:List Value)(ls:Ξ):Prop where
 len:us.length=ls.length
 fn:∀(i j:Nat) u l m,us[i]?=some u->us[j]?=some u->ls[i]?=some l->ls[j]?=some m->l=m
 ask:2<=us.length->∃κ:SortKind,(∀(s:Shared)(Q:SortKind->Shared->Prop)(E:Ω),good s.heap->Q κ s->wpAny (model prog w) A (keyKind' us.toArray) Q E s)/\
  ∀(i j:Nat) u v l m,us[i]?=some u->us[j]?=some v->ls[i]?=some l->ls[j]?=some m->∀(s:Shared)(Q:Bool->Shared->Prop)(E:Ω),good s.heap->Q (lexLt l m) s->wpAny (model prog w) A (keyLt' κ u v) Q E s
open Classical in
noncomputable def k7(us:List Value)(ls:Ξ)(u:Value):List Int:=if h:∃l,∃i:Nat,us[i]?=some u/\ls[i]?=some l then h.choose else []
def nQ{us:List Value}{ls:Ξ}(fn:∀(i j:Nat) u l m,us[i]?=some u->us[j]?=some u->ls[i]?=some l->ls[j]?=some m->l=m){i:Nat}{u:Value}{l:List Int}(h1:us[i]?=some u)(h2:ls[i]?=some l):k7 us ls u=l:=by
 unfold k7;have h:∃l,∃i:Nat,us[i]?=some u/\ls[i]?=some l:=⟨l,i,h1,h2⟩;rw[dif_pos h];obtain⟨j,e1,e2⟩:=h.choose_spec;exact fn j i u _ l e1 h1 e2 h2
noncomputable def k8(us:List Value)(ls:Ξ)(p:Keyed):Int:=rk ls (k7 us ls p.1)
section
variable{prog:Program}{w:World}{A:Around}{E:Ω}{s:Shared}{good:Heap->Prop}{us vs:List Value}{ls:Ξ}
def q8(h:us.length=vs.length){p:Keyed}(hp:p∈(us.toArray.zip vs.toArray).toList):∃i:Nat,us[i]?=some p.1/\vs[i]?=some p.2:=by
 have e:(us.toArray.zip vs.toArray).toList=us.zip vs:=by simp
 rw[e] at hp;obtain⟨i,hi,e2⟩:=List.mem_iff_getElem.mp hp;rw[List.getElem_zip] at e2;rw[List.length_zip] at hi;refine⟨i,?_,?_⟩
 ·rw[Af ω,<-e2]
 ·rw[Af ω,<-e2]
def Jy(B:By prog w A good us ls)(d:us.length=vs.length)(f:good s.heap){κ:SortKind}(h2:2<=us.length)(g:us.length<64)(hk:∀(i j:Nat) u v l m,us[i]?=some u->us[j]?=some v->ls[i]?=some l->ls[j]?=some m->∀(s:Shared)(Q:Bool->Shared->Prop)(E:Ω),good s.heap->Q (lexLt l m) s->wpAny (model prog w) A (keyLt' κ u v) Q E s){Q:Unit->SortSt->Prop}(h:∀a,(arrOf a).Perm (us.toArray.zip vs.toArray)->failedOf a=none->Tim.bg (k8 us ls) (arrOf a) 0 vs.length->Q () a):wpS (model prog w) A E s sortRuns' Q (SortSt.mk' κ (us.toArray.zip vs.toArray) #[] 7 none):=by
 have hz:(us.toArray.zip vs.toArray).size=vs.length:=by simp;omega
 refine Tim.Jx (κ:=κ) (a₀:=us.toArray.zip vs.toArray) (ρ:=k8 us ls) ⟨fun x y hx hy o p hq=>?_⟩ ⟨Array.Perm.refl _,rfl,rfl⟩ rfl (by rw[hz];omega) (by rw[hz];omega) fun a b e=>h a b.perm b.failed (by rw[<-hz];exact e);obtain⟨i,e1,_⟩:=q8 d hx;obtain⟨j,e2,_⟩:=q8 d hy;have hi:i<ls.length:=by rw[<-B.len];exact(List.getElem?_eq_some_iff.mp e1).1
 have c:j<ls.length:=by rw[<-B.len];exact(List.getElem?_eq_some_iff.mp e2).1
 have f1:ls[i]?=some ls[i]:=Af hi;have f2:ls[j]?=some ls[j]:=Af c;refine hk i j _ _ _ _ e1 e2 f1 f2 s o p f ?_;unfold k8 at hq;rw[nQ B.fn e1 f1,nQ B.fn e2 f2,D9 (A9 hi) (A9 c)] at hq;exact hq
def bC{a b:Type}:∀(l:List a)(m:List b)(i:Nat),(l.zip m)[i]?=(l[i]?).bind fun x=>(m[i]?).map fun y=>(x,y)
 |[],m,i=>by simp
 |x::l,[],i=>by cases h:(x::l)[i]?<;>simp
 |x::l,y::m,0=>rfl
 |x::l,y::m,i+1=>by
  rw[List.zip_cons_cons,List.getElem?_cons_succ,List.getElem?_cons_succ,List.getElem?_cons_succ];exact bC l m i
def Jz(B:By prog w A good us ls)(r:us.length=vs.length){xs:Array Keyed}(hp:xs.Perm (us.toArray.zip vs.toArray))(hs:Tim.bg (k8 us ls) xs 0 vs.length):∃ps:List (List Int×Value),ps.Perm (ls.zip vs)/\xs.toList.map (·.2)=ps.map (·.2)/\ps.Pairwise fun(a b:List Int×Value)=>HT.lexLt b.1 a.1=false:=by
 have f:xs.toList.Perm (us.zip vs):=by
  have:=Array.perm_iff_toList_perm.mp hp
  simpa using this
 refine⟨xs.toList.map fun p=>(k7 us ls p.1,p.2),?_,by rw[At];rfl,?_⟩
 ·have e:(us.zip vs).map (fun p:Keyed=>(k7 us ls p.1,p.2))=ls.zip vs:=by
   apply List.ext_getElem?;intro i;rw[Ai,bC,bC];cases e1:us[i]? with
   |none=>
    have:ls[i]?=none:=List.getElem?_eq_none (by rw[<-B.len];exact List.getElem?_eq_none_iff.mp e1);rw[this];rfl
   |some u=>
    have hi:i<ls.length:=by rw[<-B.len];exact(List.getElem?_eq_some_iff.mp e1).1
    have f1:ls[i]?=some ls[i]:=Af hi;rw[f1];cases e2:vs[i]? with
    |none=>rfl
    |some v=>
     show some (k7 us ls u,v)=some (ls[i],v);rw[nQ B.fn e1 f1]
  rw[<-e];exact f.map _
 ·rw[Bf,List.pairwise_iff_getElem]
  intro i j hi o g;have hsz:xs.size=vs.length:=by
   have:=f.length_eq;rw[Aw,List.length_zip] at this;omega
  rw[Aw] at hi o;have q:=hs i j (AK _) (Nat.le_of_lt g) ω;have s:xs[i]?=some xs[i]:=getElem?_pos xs i hi;have x:xs[j]?=some xs[j]:=getElem?_pos xs j o;rw[Tim.iG s,Tim.iG x] at q;simp only[Array.getElem_toList];obtain⟨h,g1,_⟩:=q8 r (p:=xs[i]) (by
   have:=f.mem_iff.mp (show xs[i]∈xs.toList by simp)
   simpa using this)
  obtain⟨l,g2,_⟩:=q8 r (p:=xs[j]) (by
   have:=f.mem_iff.mp (show xs[j]∈xs.toList by simp)
   simpa using this)
  have c:h<ls.length:=by rw[<-B.len];exact(List.getElem?_eq_some_iff.mp g1).1
  have d:l<ls.length:=by rw[<-B.len];exact(List.getElem?_eq_some_iff.mp g2).1
  have f1:ls[h]?=some ls[h]:=Af c;have f2:ls[l]?=some ls[l]:=Af d;unfold k8 at q;rw[nQ B.fn g1 f1,nQ B.fn g2 f2] at q ⊢;have:=D9 (ls:=ls) (A9 d) (A9 c);rw[<-this];exact decide_eq_false ω
end
end bg
end
section
namespace bg
open PySem PyProof.Rows PySem.W
section
variable{prog:Program}{w:World}{A:Around}{E:Ω}{s:Shared}{good:Heap->Prop}{us vs:List Value}{ls:Ξ}
def w_{ns:List Int}(hi:IntsAre us ns):By prog w A (fun _=>True) us (ns.map fun n=>[n]):=by
 have b:=hi.length;have a:∀(i:Nat) u l,us[i]?=some u->(ns.map fun n=>[n])[i]?=some l->∃n t,u=.int n t/\l=[n]:=fun i u l h1 h2=>by
  obtain⟨t,e⟩:=IntsAre.int_at hi i u h1;rw[Ai] at h2;cases e2:ns[i]? with
  |none=>rw[e2] at h2;cases h2
  |some n=>
   rw[e2] at h2;have e3:ns.getD i 0=n:=by rw[AR,e2];rfl
   rw[e3] at e;exact⟨n,t,e,(An h2).symm⟩
 refine⟨by rw[Ab,b],fun i j u l m h1 h2 d f=>?_,fun h2=>⟨oneType',fun s Q E _ hq=>?_,fun i j u v l m h1 h2 d f s Q E _ hq=>?_⟩⟩
 ·obtain⟨n,t,e1,rfl⟩:=a i u l h1 d
  obtain⟨c,t',e2,rfl⟩:=a j u m h2 f;rw[e1] at e2;cases e2
  rfl
 ·match us,hi,h2 with
  |[],_,h2=>simp at h2
  |[_],_,h2=>simp at h2
  |v₁::v₂::rest,hi,_=>
   rw[keyKind_ints hi];exact Ac hq
 ·obtain⟨n,t,rfl,rfl⟩:=a i u l h1 d
  obtain⟨c,t',rfl,rfl⟩:=a j v m h2 f;refine kat_lt_int ?_;have:HT.lexLt [n] [c]=decide (n<c):=by
   rw[HT.zF]
   by_cases e:n=c
   ·rw[if_pos e,HT.Dw];exact(decide_eq_false ω).symm
   ·rw[if_neg e]
  rw[this] at hq;exact hq
def IsPr(h:Heap)(u:Value)(l:List Int):Prop:=∃(a b:Addr)(n:Int)(t:Tok)(c:List Value)(ps:List Int),u=.ref a/\l=n::ps/\IsTup h a #[.int n t,.ref b]/\IsTup h b c.toArray/\IntsAre c ps
def IsTup.inj{h:Heap}{a:Addr}{xs ys:Array Value}(h1:IsTup h a xs)(h2:IsTup h a ys):xs=ys:=by
 obtain⟨o,e,_,n,d⟩:=h1;obtain⟨o',b,_,c,d'⟩:=h2;rw[e] at b;cases b;rw[d] at d';injection d'
def IntsAre.inj{vs:List Value}{ns ms:List Int}(h:IntsAre vs ns)(g:IntsAre vs ms):ns=ms:=by
 induction h generalizing ms with
 |nil=>cases g;rfl
 |cons n t h ih=>cases g with|cons _ _ h'=>rw[ih h']
def IsPr.inj{h:Heap}{u:Value}{l m:List Int}(h1:IsPr h u l)(h2:IsPr h u m):l=m:=by
 obtain⟨a,b,n,t,c,ps,rfl,rfl,d,f,i1⟩:=h1;obtain⟨o,p,q,t',its',r,e,rfl,g,i,j⟩:=h2;cases e;have:=bg.IsTup.inj d g;cases this;have e2:=bg.IsTup.inj f i;have e3:c=its':=by simpa using e2
 subst e3;rw[IntsAre.inj i1 j]
def JA{x y:Value}{l m:List Int}{Q:Bool->Shared->Prop}(h1:IsPr s.heap x l)(h2:IsPr s.heap y m)(hu:A.units<cLine)(hq:Q (HT.lexLt l m) s):wpAny (model prog w) A (keyLt' (tuples' true) x y) Q E s:=by
 obtain⟨a,b,n,t,L,ps,rfl,rfl,H,u,i1⟩:=h1;obtain⟨M,v,g,t',its',C,rfl,rfl,I,D,F⟩:=h2;obtain⟨o,e,hc,k,d⟩:=id H;obtain⟨o',J,N,O,d'⟩:=id I;refine kat_lt e d J d' ?_;show KatLex prog w A true (decide (2<2)) Q [(.int n t,.int g t'),(.ref b,.ref v)] 0 s;rw[HT.zF] at hq;refine kat_cons (wpAny_mono (SeqAt.EqAt.int_int n t g t' prog w (fun _ _=>False) _ ⟨rfl,rfl⟩:wpAny (model prog w) A (eqBool (.int n t) (.int g t')) (fun e s'=>e=(n==g)/\s'=s) (fun _ _=>False) s) (fun e1 j he=>?_) fun _ _ z=>z);obtain⟨rfl,rfl⟩:=he
 by_cases p:n=g
 ·have r:(n==g)=true:=by simpa using p
  rw[r];rw[if_pos p] at hq;refine kat_yes (kat_cons ?_);have G:∀{c:Addr}{cs:List Value}{i:List Int},IsTup j.heap c cs.toArray->IntsAre cs i->AI (L2.zt prog w) j.heap (i.map Sum.inl) c:=fun{c cs i} hc hi=>by
   obtain⟨o,e,q,k,d⟩:=hc;refine⟨o,cs.toArray,k,e,q,d,?_⟩;have:∀{cs:List Value}{i:List Int},IntsAre cs i->ItemsAre (L2.zt prog w) (i.map Sum.inl) cs:=by
    intro cs i hi
    induction hi with
    |nil=>exact .nil
    |cons n t h ih=>exact .cons (L2.vl prog w n t) ih
   simpa using this hi
  refine wpAny_eqBool_tuple (knd:=L2.zt prog w) hu (G u i1) (G D F) ?_
  by_cases ep:ps=C
  ·subst ep
   rw[decide_eq_true rfl];rw[w6] at hq;exact kat_yes (kat_nil hq)
  ·have:¬(ps.map Sum.inl:List L2.Key)=C.map Sum.inl:=fun z=>ep (List.map_inj_right (f:=(Sum.inl:Int->L2.Key)) (fun x y h=>Sum.inl.inj h)|>.mp z)
   rw[decide_eq_false this];refine kat_no ?_;show wpAny (model prog w) A (oneLt' false (.ref b) (.ref v)) Q (fun _ _=>False) j;exact kat_one _ _ (HT.IF u D (by simpa using i1) (by simpa using F) hu hq)
 ·have r:(n==g)=false:=by simpa using p
  rw[r];rw[if_neg p] at hq;refine kat_no ?_;show wpAny (model prog w) A (oneLt' true (.int n t) (.int g t')) Q (fun _ _=>False) j;exact oneLt_int hq
def D_{h:Heap}:∀{us:List Value}{ls:Ξ},us.length=ls.length->(∀(i:Nat) u l,us[i]?=some u->ls[i]?=some l->IsPr h u l)->∃fs,KatTups h us fs/\fs.length=us.length/\∀f∈fs,∃n t,f=Value.int n t
 |[],[],_,_=>⟨[],.nil,rfl,fun f hf=>nomatch hf⟩
 |u::us,l::ls,hl,hp=>by
  obtain⟨fs,c,g,j⟩:=D_ (us:=us) (ls:=ls) (by simpa using hl) fun i u l h1 h2=>hp (i+1) u l (by simpa using h1) (by simpa using h2);obtain⟨a,b,n,t,q,ps,rfl,rfl,p,r,i1⟩:=hp 0 u l rfl rfl;obtain⟨o,e,hc,k,d⟩:=id p;refine⟨.int n t::fs,.cons e hc d rfl c,by simp[g],fun f hf=>?_⟩;rcases List.mem_cons.mp hf with rfl|hf
  ·exact⟨n,t,rfl⟩
  ·exact j f hf
 |[],_::_,h,_=>by simp at h
 |_::_,[],h,_=>by simp at h
def Ea(e:us.length=ls.length)(hu:A.units<cLine)(p:∃h,good h)(hp:∀h,good h->∀(i:Nat) u l,us[i]?=some u->ls[i]?=some l->IsPr h u l):By prog w A good us ls:=by
 refine⟨e,fun i j u l m h1 h2 b c=>?_,fun h2=>⟨tuples' true,fun s Q E a hq=>?_,fun i j u v l m h1 h2 b c s Q E a hq=>?_⟩⟩
 ·obtain⟨h,d⟩:=p
  exact(hp h d i u l h1 b).inj (hp h d j u m h2 c)
 ·obtain⟨fs,g,q,o⟩:=D_ e (hp _ a)
  refine kat_kind (T:=.type "int") g ω (fun f hf=>?_) ξ hq;obtain⟨n,t,rfl⟩:=o f hf;exact Looks.of_pure rfl
 ·exact JA (hp _ a i u l h1 b) (hp _ a j v m h2 c) hu hq
end
def Out(ls:Ξ)(vs out:List Value):Prop:=∃ps:List (List Int×Value),ps.Perm (ls.zip vs)/\out=ps.map (·.2)/\ps.Pairwise fun(a b:List Int×Value)=>HT.lexLt b.1 a.1=false
section
variable{prog:Program}{w:World}{A:Around}{E:Ω}{s:Shared}{good:Heap->Prop}{us vs:List Value}{ls:Ξ}
def JB(a:ls.length=vs.length)(hu:us.length=vs.length)(h2:vs.length<2):Out ls vs ((us.toArray.zip vs.toArray).map (·.2)).toList:=by
 have e:((us.toArray.zip vs.toArray).map (·.2)).toList=vs:=by
  rw[Array.toList_map,show(us.toArray.zip vs.toArray).toList=us.zip vs by simp,List.map_snd_zip ω]
 rw[e];refine⟨ls.zip vs,List.Perm.refl _,by rw[List.map_snd_zip ω],?_⟩;have hz:(ls.zip vs).length<2:=by rw[List.length_zip];omega
 match ls.zip vs,hz with
 |[],_=>exact List.Pairwise.nil
 |[x],_=>simp
 |_::_::_,h=>simp only[Au] at h;omega
def Eb(B:By prog w A good us ls)(c:us.length=vs.length)(j:vs.length<64)(i:good s.heap){P:PySem.Fin->Shared->Prop}{G:Unit×SortSt->Sem PySem.Fin}(h:∀a,Out ls vs ((arrOf a).map (·.2)).toList->(arrOf a).size=vs.length->failedOf a=none->wpAny (model prog w) A (G (PUnit.unit,a)) P E s):wpAny (model prog w) A (if vs.toArray.size<2 then(pure general' >>= fun kind=>(if vs.toArray.size<2 then pure () else sortRuns').run (SortSt.mk' kind (us.toArray.zip vs.toArray) #[] 7 none) >>= G)
   else(keyKind' us.toArray >>= fun kind=>(if vs.toArray.size<2 then pure () else sortRuns').run (SortSt.mk' kind (us.toArray.zip vs.toArray) #[] 7 none) >>= G)) P E s:=by
 have b:(us.toArray.zip vs.toArray).size=vs.length:=by rw[Array.size_zip,Aj,Aj];omega
 by_cases h2:vs.toArray.size<2
 ·rw[if_pos h2]
  refine Aa (Ac ?_);rw[if_pos h2];rw[StateT.run_pure];refine Aa (Ac ?_)
  try dsimp only
  rw[Aj] at h2;exact h (SortSt.mk' general' (us.toArray.zip vs.toArray) #[] 7 none) (JB (by rw[<-B.len];exact c) c h2) b rfl
 ·rw[if_neg h2,if_neg h2]
  rw[Aj] at h2;obtain⟨κ,k1,k2⟩:=B.ask ω;refine Aa (k1 s _ E i ?_);refine Aa (wpAny_mono (Jy (Q:=fun _ a=>(arrOf a).Perm (us.toArray.zip vs.toArray)/\failedOf a=none/\Tim.bg (k8 us ls) (arrOf a) 0 vs.length) B c i ω ω k2 fun a d f g=>⟨d,f,g⟩) ?_ fun _ _ e=>e);rintro⟨⟨⟩,a⟩ s' ⟨rfl,hp,hf,hs⟩
  try dsimp only
  exact h a (by
   obtain⟨ps,d,f,g⟩:=Jz B c hp hs;exact⟨ps,d,by rw[Array.toList_map];exact f,g⟩) (by rw[hp.size_eq];exact b) hf
def xf{a:Addr}{n:Nat}{P:PySem.Fin->Shared->Prop}(c:s.heap.get? a=some (seqObj "list" vs.toArray n))(B:By prog w A good vs ls)(j:∀h',(∀b o,b≠a->s.heap.get? b=some o->h'.get? b=some o)->good h')(hz:vs.length<=sizeLine)(d:vs.length<64)(h:∀out:Array Value,Out ls vs out.toList->P (.done (.ret .none)) {s with heap:=sortedHeap s.heap a vs out}):wpAny (model prog w) A (Builtin.«list.sort» ⟨[.ref a],[]⟩) P E s:=by
 rw[list_sort_plain];have g:a<s⁻¹:=Ak c;refine Aa (listItems_at c rfl ?_);refine Aa (listUpdate_at c rfl ?_ (by rw[Aj];exact hz) (AK _));obtain⟨e1,f⟩:∃e1,(s.heap.update a (AH fun _=>#[])).get? a=some (seqObj "list" #[] e1):=⟨_,get?_update_seq c (fun _=>#[])⟩;refine Aa (seqEpoch_at f rfl ?_);refine Aa (wpAny_newTuple ?_ (by show vs.length<=_;exact hz));refine Aa (wpAny_newList ?_ (AK _));refine AA ?_;have i:(((s.heap.update a (AH fun _=>#[])).push (seqObj "tuple" vs.toArray 0)).push (seqObj "list" #[] 0)).get? a=some (seqObj "list" #[] e1):=by
  rw[Heap.get?_push_ne _ _ _ (by rw[size_push',Bb];exact Ao (Be g)),Heap.get?_push_ne _ _ _ (by rw[Bb];exact Ao g)];exact f
 show wpAny (model prog w) A _ P E {s with heap:=((s.heap.update a (AH fun _=>#[])).push (seqObj "tuple" vs.toArray 0)).push (seqObj "list" #[] 0)};dsimp only;refine Eb (s:={s with heap:=((s.heap.update a (AH fun _=>#[])).push (seqObj "tuple" vs.toArray 0)).push (seqObj "list" #[] 0)}) B rfl d (j _ fun b o hb e=>Ad _ (Ad _ (by rw[Heap.get?_update_ne _ _ _ _ hb];exact e))) fun l c hsz hf=>?_;dsimp only;refine Aa (seqEpoch_at i rfl ?_);refine Aa (listUpdate_at i rfl ?_ (AK _) (AO (Nat.le_of_eq ((AY ..).trans hsz)) (Nat.le_succ_of_le hz)));rw[hf];simp only[bne_self_eq_false,Ah,if_false];exact Ac (h _ c)
def Ec{l:Addr}{Q:Ω}(f:s.heap.IsList l vs.toArray)(B:By prog w A.in1.in1 good vs ls)(g:∀h',(∀b o,s.heap.get? b=some o->h'.get? b=some o)->good h')(hz:vs.length<=sizeLine)(d:vs.length<64)(h:∀out:Array Value,Out ls vs out.toList->Q (.ref (s⁻¹+1)) {s with heap:=sortedAll s.heap vs out}):wpAny (model prog w) A (call (.builtin "sorted") [.ref l]) Q E s:=by
 refine Calls.call_function_entry kind_sorted plain_sorted entry_sorted (args_sorted1 _) ?_;unfold Builtin.«sorted»;refine Aa (m:=checkCount "sorted" 1 1 _) (Ac ?_);refine Aa (collect_list f ?_ hz);refine Aa (wpAny_newList ?_ hz);have hsz:((s.heap.push (seqObj "list" #[] 0)).update s⁻¹ (AH (·++vs.toArray))).objs.size=s⁻¹+1:=by
  rw[Bb,size_push']
 have c:(((s.heap.push (seqObj "list" #[] 0)).update s⁻¹ (AH (·++vs.toArray))).push (seqObj "list" vs.toArray 0)).get? (s⁻¹+1)=some (seqObj "list" vs.toArray 0):=by
  rw[<-hsz];exact Al _ rfl
 have keep:∀b o,s.heap.get? b=some o->(((s.heap.push (seqObj "list" #[] 0)).update s⁻¹ (AH (·++vs.toArray))).push (seqObj "list" vs.toArray 0)).get? b=some o:=fun b o q=>by
  have a:b<s⁻¹:=Ak q;rw[Heap.get?_push_ne _ _ _ (by rw[hsz];exact Ao (Be a)),Heap.get?_update_ne _ _ _ _ (Ao a),Heap.get?_push_ne _ _ _ (Ao a)];exact q
 show wpAny _ _ _ _ _ {s with heap:=((s.heap.push (seqObj "list" #[] 0)).update s⁻¹ (AH (·++vs.toArray))).push (seqObj "list" vs.toArray 0)};rw[hsz];refine Aa (AA (AC slot_list_sort ⟨_,c,rfl⟩ entry_list_sort (xf (s:={s with heap:=((s.heap.push (seqObj "list" #[] 0)).update s⁻¹ (AH (·++vs.toArray))).push (seqObj "list" vs.toArray 0)}) c B (fun h' hk=>g h' fun b o q=>hk b o (Ao (Be (Ak q))) (keep b o q)) hz d fun out e=>⟨_,rfl,?_⟩) (args_list_sort _)));exact Ac ⟨_,rfl,h out e⟩
def JC{a kS:Addr}{keys:Array Value}{e e1:Nat}{st:SortSt}{P:PySem.Fin->Shared->Prop}(j:s.heap.get? kS=some (seqObj "list" keys e))(r:s.heap.get? a=some (seqObj "list" #[] e1))(l:kS≠a)(u:keys.size<=sizeLine)(v:Out ls vs ((arrOf st).map (·.2)).toList)(hsz:(arrOf st).size=vs.length)(hz:vs.length<=sizeLine)(x:failedOf st=none)(h:∀h' out c,(∀b o,b≠kS->b≠a->s.heap.get? b=some o->h'.get? b=some o)->h'.get? a=some (seqObj "list" out c)->(∃o,h'.get? kS=some o)->Out ls vs out.toList->h'.objs.size=s⁻¹->P (.done (.ret .none)) {s with heap:=h'}):wpAny (model prog w) A (ksk_tail a false e1 (.ref kS) st) P E s:=by
 have g:=AL s.heap kS (AH fun _=>(#[]:Array Value));have f:(s.heap.update kS (AH fun _=>(#[]:Array Value))).get? a=some (seqObj "list" #[] e1):=(g.2 a l.symm).trans r;have i:=AL (s.heap.update kS (AH fun _=>(#[]:Array Value))) a (AH fun _=>(arrOf st).map (·.2));obtain⟨d,p⟩:∃d,((s.heap.update kS (AH fun _=>(#[]:Array Value))).update a (AH fun _=>(arrOf st).map (·.2))).get? a=some (seqObj "list" ((arrOf st).map (·.2)) d):=
  ⟨_,get?_update_seq f fun _=>(arrOf st).map (·.2)⟩
 unfold ksk_tail
 try dsimp only
 simp only[Ah,if_false];refine Aa (listUpdate_at j rfl ?_ u (AK _));refine Aa (wpAny_letGo ?_);refine Aa (seqEpoch_at f rfl ?_);refine Aa (listUpdate_at f rfl ?_ (AK _) (AO (Nat.le_of_eq ((AY ..).trans hsz)) (Nat.le_succ_of_le hz)));rw[x];simp only[bne_self_eq_false,Ah,if_false];refine Ac (h _ _ d (fun b o h1 h2 q=>(i.2 b h2).trans ((g.2 b h1).trans q)) p ⟨_,(i.2 kS l).trans (get?_update_seq j fun _=>#[])⟩ v (by rw[Bb,Bb]))
end
end bg
end
section
namespace L2
open PySem PySem.Spec PyProof.Rows
def clOf(cells:List (Str×Addr)):List (Str×NameKind)->List (Str×Addr)->List (Str×Addr)
 |[],acc=>acc
 |(n,k)::r,acc=>if(k==.free)=true then clOf cells r ((n,(cells.lookup n).getD 0)::acc) else clOf cells r acc
def Ed{env:Env}:∀(names:List (Str×NameKind))(acc:List (Str×Addr)),(∀x∈names,x.2=.free->∃c,env.cells.lookup x.1=some c)-> (forIn names acc fun x(r:List (Str×Addr))=>if(x.2==.free)=true then do let c <-cellOf env x.1;pure (ForInStep.yield ((x.1,c)::r)) else pure (ForInStep.yield r):Sem (List (Str×Addr)))=pure (clOf env.cells names acc)
 |[],acc,_=>rfl
 |(n,k)::r,acc,h=>by
  rw[List.forIn_cons];have b:=fun a=>Ed (env:=env) r a fun x hx=>h x (Ay _ hx);unfold clOf
  by_cases hk:(k==NameKind.free)=true
  ·have hk':k=.free:=by cases k<;>first|rfl|cases hk
   obtain⟨c,hc⟩:=h (n,k) Av hk';simp only[hk,if_true];unfold cellOf;rw[hc];simp only[pure_bind,Option.getD_some];exact b _
  ·simp only[hk,Ah,if_false,pure_bind]
   exact b _
def JD{scope:Scope}{env:Env}(h:∀x∈scope.names,x.2=.free->∃c,env.cells.lookup x.1=some c):closureFor scope env=pure (clOf env.cells scope.names []):=by
 rw[<-Ed scope.names [] h];unfold closureFor;simp
def xl{cells:List (Str×Addr)}{x:Str}{c:Addr}:∀{names:List (Str×NameKind)}{acc:List (Str×Addr)},(∀y∈names,y.2=.free->∃d,cells.lookup y.1=some d)->(∀p∈acc,cells.lookup p.1=some p.2)->(clOf cells names acc).lookup x=some c->cells.lookup x=some c
 |[],acc,_,ha,h=>ha (x,c) (PySem.mem_of_lookup h)
 |(n,k)::r,acc,hn,ha,h=>by
  unfold clOf at h;have b:∀y∈r,y.2=.free->∃d,cells.lookup y.1=some d:=fun y hy=>hn y (Ay _ hy)
  by_cases hk:(k==NameKind.free)=true
  ·have hk':k=.free:=by cases k<;>first|rfl|cases hk
   obtain⟨d,hd⟩:=hn (n,k) Av hk';rw[if_pos hk] at h;refine xl b (fun p hp=>?_) h;rcases List.mem_cons.mp hp with rfl|hp
   ·show cells.lookup n=some ((cells.lookup n).getD 0)
    have a:cells.lookup n=some d:=hd;rw[a];rfl
   ·exact ha p hp
  ·rw[if_neg hk] at h
   exact xl b ha h
def xC{x:Str}{c:Addr}:∀{l:List (Str×Addr)},(x,c)∈l->∃d,l.lookup x=some d
 |[],h=>nomatch h
 |(y,d)::l,h=>by
  rw[Bl]
  by_cases e:x=y
  ·subst e;exact⟨d,by simp⟩
  ·have hb:(x==y)=false:=by simpa using e
   rw[hb];rcases List.mem_cons.mp h with q|q
   ·cases q;exact absurd rfl e
   ·exact xC q
def q_{cells:List (Str×Addr)}{x:Str}:∀{names:List (Str×NameKind)}{acc:List (Str×Addr)},((x,NameKind.free)∈names\/∃c,(x,c)∈acc)->∃c,(x,c)∈clOf cells names acc
 |[],acc,h=>h.elim (fun q=>nomatch q) id
 |(n,k)::r,acc,h=>by
  unfold clOf
  by_cases hk:(k==NameKind.free)=true
  ·rw[if_pos hk]
   refine q_ ?_;rcases h with h|⟨c,h⟩
   ·rcases List.mem_cons.mp h with q|q
    ·cases q;exact .inr ⟨_,Av⟩
    ·exact .inl q
   ·exact .inr ⟨c,Ay _ h⟩
  ·rw[if_neg hk]
   refine q_ ?_;rcases h with h|h
   ·rcases List.mem_cons.mp h with q|q
    ·cases q;exact absurd rfl hk
    ·exact .inl q
   ·exact .inr h
def cxC(X:Cx)(scope:Scope)(N:List Str)(a:List (Str×Addr))(C:Addr)(s₀:Shared)(H₀:Hp)(ex:List Addr):Cx where
 prog:=X.prog
 w:=X.w
 K:=X.K
 mg:=X.mg
 base:=X.base
 A:=X.A
 N:=N
 s₀:=s₀
 H₀:=H₀
 env:=compEnvC scope a C X.env
 outer:=X.stack
 stack:=X.stack
 ex:=ex
 fn:=fun _=>false
 calm:=X.calm
 pn:=X.pn
 xe:=fun _ _=>False
def jl(X:Cx)(bD:List Expr)(t:TT):Prop:=
 ∀(aa:Ψ)(s:Shared)(σ:St)(H:Hp)(Q:Bool->Hp->Prop),Inv X aa σ H s->t σ H Q->
  wpAny (model X.prog X.w) X.A (forIn bD true fun c r=>if r=true then do let ok <-isTrue c X.env (eval c X.env);pure (ForInStep.yield ok) else pure (ForInStep.yield r)) (TP X aa σ Q) X.xe s
def ci:TT:=fun _ H Q=>Q true H
def zH{X:Cx}:jl X [] ci:=fun _ _ _ H _ I h=>wpAny_tests_nil ⟨H,I,h⟩
def gh{X:Cx}{c:Expr}{t:TT}(h:PT X c t):jl X [c] t:=fun aa s σ H Q I hw=>wpAny_tests_one (h aa s σ H Q I hw)
def n3(au:List (Option Nat))(σ:St):St:=au.map fun c=>match c with
 |none=>none
 |some j=>(σ[j]?).getD none
def cG(J:It)(g:TG)(tc:TT)(te:TE)(σ:St)(H1:Hp)(D:Addr)(Q:VK):Prop:=
 ∃W:Nat->Nat->St->Hp->Prop,(∃m,W 0 m σ (upd H1 D (.lst [])))/\
 ∀i m d H2,W i m d H2->(J.stop i H2/\Q (.ref D) H2)\/(J.go i H2/\∀x h,J.yld i H2 x h->g x d h fun c j=>tc c j fun b e=>
  if b=true then te c e fun y f=>∃ys a,f D=some (.lst ys)/\ys.length<sizeLine/\a<m/\W (i+1) a c (upd f D (.lst (ys++[y])))
  else ∃a,a<m/\W (i+1) a c e)
def k9(wi:TI)(au:List (Option Nat))(g:TG)(tc:TT)(te:TE):TE:=fun σ H Q=>wi σ H fun J H1=>∀D,H1 D=none->cG J g tc te (n3 au σ) H1 D Q
def rg(N N':List Str)(au:List (Option Nat))(scope:Scope):Prop:=
 au.length=N'.length/\∀i j:Nat,au[i]?=some (some j)->∃x:Str,N'[i]?=some x/\N[j]?=some x/\scope.names.lookup x=some .free
section
variable{X:Cx}{scope:Scope}{N':List Str}{au:List (Option Nat)}{tg iter cm:Expr}{bD:List Expr}{wi:TI}{g:TG}{tc:TT}{te:TE}{pos:Pos}
def Ee{scope:Scope}{env:Env}{x:Str}:∀{names:List (Str×NameKind)},(names.lookup x=some .free\/names.lookup x=some .cell)-> ((names.map fun(n,k)=>if(k==NameKind.free&&env.scope.kind==.function&&env.kindOf n==some .cell) then(n,NameKind.cell) else(n,k)).lookup x=some .free \/
   (names.map fun(n,k)=>if(k==NameKind.free&&env.scope.kind==.function&&env.kindOf n==some .cell) then(n,NameKind.cell) else(n,k)).lookup x=some .cell)
 |[],h=>by simp at h
 |(n,k)::r,h=>by
  have a:=@Ee scope env x r;show List.lookup x ((if(k==NameKind.free&&env.scope.kind==.function&&env.kindOf n==some .cell)=true then(n,NameKind.cell) else(n,k))::_)=_\/List.lookup x ((if(k==NameKind.free&&env.scope.kind==.function&&env.kindOf n==some .cell)=true then(n,NameKind.cell) else(n,k))::_)=_;cases hx:x==n with
  |true=>
   simp only[Bl,hx] at h
   by_cases hc:(k==NameKind.free&&env.scope.kind==.function&&env.kindOf n==some .cell)=true
   ·rw[if_pos hc];simp[Bl,hx]
   ·rw[if_neg hc];simp only[Bl,hx];exact h
  |false=>
   simp only[Bl,hx] at h
   by_cases hc:(k==NameKind.free&&env.scope.kind==.function&&env.kindOf n==some .cell)=true
   ·rw[if_pos hc];simp only[Bl,hx];exact a h
   ·rw[if_neg hc];simp only[Bl,hx];exact a h
def xG{env:Env}{x:Str}{a:NameKind}:∀{names:List (Str×NameKind)},(names.map fun(n,k)=>if(k==NameKind.free&&env.scope.kind==.function&&env.kindOf n==some .cell) then(n,NameKind.cell) else(n,k)).lookup x=some a->
  ∃b,names.lookup x=some b/\(a=b\/(b=.free/\a=.cell))
 |[],h=>by simp at h
 |(n,k)::r,h=>by
  have c:=@xG env x a r;have h':List.lookup x ((if(k==NameKind.free&&env.scope.kind==.function&&env.kindOf n==some .cell)=true then(n,NameKind.cell) else(n,k))::_)=some a:=h;cases hx:x==n with
  |true=>
   simp only[Bl,hx]
   by_cases hc:(k==NameKind.free&&env.scope.kind==.function&&env.kindOf n==some .cell)=true
   ·rw[if_pos hc] at h'
    simp only[Bl,hx] at h';cases h';have hk:k=.free:=by
     rw[AN,AN] at hc;cases k<;>first|rfl|exact absurd hc.1.1 ξ
    exact⟨k,rfl,.inr ⟨hk,rfl⟩⟩
   ·rw[if_neg hc] at h'
    simp only[Bl,hx] at h';cases h';exact⟨_,rfl,.inl rfl⟩
  |false=>
   simp only[Bl,hx]
   by_cases hc:(k==NameKind.free&&env.scope.kind==.function&&env.kindOf n==some .cell)=true
   ·rw[if_pos hc] at h';simp only[Bl,hx] at h';exact c h'
   ·rw[if_neg hc] at h';simp only[Bl,hx] at h';exact c h'
structure Left(X:Cx)(aa:Ψ)(σ:St)(H':Hp)(s4:Shared)(C:Addr):Prop where
 ns:∃m,s4.heap.Ns C m
 far:X.s₀⁻¹<=C
 nl:C≠X.env.locals
 nc:∀x c,X.env.cells.lookup x=some c->c≠C
 np:∀p∈X.pn++aa,p.1≠C
 no:H' C=none
 back:∀h',AQ C s4.heap h'->Inv X aa σ H' {s4 with heap:=h'}
def Ef{use:Option (Value->Sem Unit)}{R:Ω}{pp:Pos}(hc:X.calm=true)(hk:scope.kind=.function)(aN:∀y∈scope.names,y.2≠.cell)(aO:∀y∈scope.names,y.2=.local->scope.names.lookup y.1=some .local)(hfr:∀y∈scope.names,y.2=.free->X.env.kindOf y.1=some .cell\/X.env.kindOf y.1=some .free)(bZ:rg X.N N' au scope)(hi:PI X tg iter wi)(hg:∀cl C s₀ H₀ ex,PG (cxC X scope N' cl C s₀ H₀ ex) tg g)(ht:∀cl C s₀ H₀ ex,jl (cxC X scope N' cl C s₀ H₀ ex) bD tc)(he:∀cl C s₀ H₀ ex,PE (cxC X scope N' cl C s₀ H₀ ex) cm te)(hs:∀x,foldedSetIterable iter X.env x=pure x){aa:Ψ}{s:Shared}{σ:St}{H:Hp}{Q:VK}(I:Inv X aa σ H s)(h:k9 wi au g tc te σ H Q)(fin:∀(D C:Addr)(H':Hp)(O:Shared)(f:Flow),Left X aa σ H' O C->Q (.ref D) H'->compPost (model X.prog X.w) X.A X.xe use R (.ref D) C (.ok f) O):wpAny (model X.prog X.w) X.A (comprehension (.ListComp cm [⟨tg,iter,bD,0⟩] scope pos) scope X.env pp (newList []) (firstAsync [⟨tg,iter,bD,0⟩]) (firstIter [⟨tg,iter,bD,0⟩] X.env) use) R X.xe s:=by
 have hcl:∀y∈scope.names,y.2=.free->∃c,X.env.cells.lookup y.1=some c:=fun y hy e=>I.ok.has y.1 (hfr y hy e);refine wpAny_comprehension_free (use:=use) rfl hs (JD hcl) hk aO ?_;refine aL (hi aa s σ H _ I h) fun xv s1 h1=>aL h1 fun nJ M h2=>?_;obtain⟨it,fp,tn,J,H2,e,I2,T,fe,f2,q⟩:=h2;subst e;have lU:H2 M⁻¹=none:=I2.hok.fresh (Ag _);obtain⟨W,⟨m0,w0⟩,turn⟩:=q M⁻¹ lU;refine AF (wpAny_newFunctionEnv aN (by intro y hy;simp at hy) (fun Z dg cY=>?_) hk);dsimp only at dg cY ⊢;generalize hD:M⁻¹=D at *;obtain⟨l,e3⟩:∃l:Shared,l={M with heap:=M.heap.push {cls:=.type "list",dict:=none,data:=.seq ([]:List Value).toArray}}:=⟨_,rfl⟩;have h3:l.heap=M.heap.push {cls:=.type "list",dict:=none,data:=.seq ([]:List Value).toArray}:=by rw[e3]
 rw[<-h3] at dg cY ⊢;have hD3:l⁻¹=D+1:=by rw[h3,Heap.size_push,hD]
 have I3:Inv X aa σ (upd H2 D (.lst [])) l:=by
  rw[e3,<-hD];exact I2.lnew (t':=M.toks) (ys:=[]) .nil (AK _)
 obtain⟨Xc,E⟩:∃Xc,Xc=cxC X scope N' (clOf X.env.cells scope.names []) l⁻¹ l (upd H2 D (.lst [])) fp:=⟨_,rfl⟩;have mT:PG Xc tg g:=by rw[E];exact hg _ _ _ _ _
 have ht':jl Xc bD tc:=by rw[E];exact ht _ _ _ _ _
 have he':PE Xc cm te:=by rw[E];exact he _ _ _ _ _
 have xP:Xc.prog=X.prog:=by rw[E];rfl
 have xw:Xc.w=X.w:=by rw[E];rfl
 have xK:Xc.K=X.K:=by rw[E];rfl
 have xA:Xc.A=X.A:=by rw[E];rfl
 have xc:Xc.calm=true:=by rw[E];exact hc
 have xe:Xc.env=compEnvC scope (clOf X.env.cells scope.names []) l⁻¹ X.env:=by rw[E];rfl
 have xE:Xc.xe=fun _ _=>False:=by rw[E];rfl
 have F:∀x c,(clOf X.env.cells scope.names []).lookup x=some c->X.env.cells.lookup x=some c:=fun x c e=>xl hcl (fun p hp=>absurd hp (by simp)) e;have l_:∀b∈fp,b≠D/\b<D:=fun b hb=>by
  obtain⟨ob,eb,_⟩:=T.obj 0 _ fe b hb;have:=Ak eb;rw[hD] at this;exact⟨Ao this,this⟩
 have hfs:∀b∈frs X.stack,b<D:=fun b hb=>by
  obtain⟨_,ob,eb,_⟩:=I2.stack.mem hb;have:=Ak eb;rw[hD] at this;exact this
 have G:∀b o,l.heap.get? b=some o->Z.get? b=some o:=fun b o e=>by
  have hb:b≠l⁻¹:=Ao (Ak e);exact(cY.2 b hb).trans (Ad _ e)
 have hCf:(upd H2 D (.lst [])) l⁻¹=none:=I3.hok.fresh (Ag _);have Ic:Inv Xc aa (n3 au σ) (upd H2 D (.lst [])) {l with heap:=Z}:=by
  have okc:Xc.Ok:=by
   rw[E];refine⟨I.ok.mod,hk,I.ok.glob,I.ok.blt,Ag _,fun x y c a b=>I.ok.inj x y c (F x c a) (F y c b),fun x hx=>?_,(fun x c a=>absurd a Aq),I.ok.hd,I.ok.frames,.inl rfl,fun b hb=>⟨?_,fun x c e=>?_⟩,fun b o e=>?_,?_,fun b o e z=>?_,fun b hb z=>?_,?_,fun b hb=>?_⟩
   ·have hx':(relabel scope X.env).names.lookup x=some .cell\/(relabel scope X.env).names.lookup x=some .free:=hx
    have key:∃S,scope.names.lookup x=some S/\(S=.free\/S=.cell):=by
     rcases hx' with q|q
     ·obtain⟨S,e1,e2⟩:=xG q
      rcases e2 with e2|⟨e2,_⟩
      ·exact⟨S,e1,.inr e2.symm⟩
      ·exact⟨S,e1,.inl e2⟩
     ·obtain⟨S,e1,e2⟩:=xG q
      rcases e2 with e2|⟨e2,_⟩
      ·exact⟨S,e1,.inl e2.symm⟩
      ·exact⟨S,e1,.inl e2⟩
    obtain⟨S,e1,e2⟩:=key;have hm:=PySem.mem_of_lookup e1;rcases e2 with rfl|rfl
    ·obtain⟨c,gd⟩:=q_ (cells:=X.env.cells) (acc:=[]) (.inl hm)
     exact xC gd
    ·exact absurd rfl (aN _ hm)
   ·show b≠l⁻¹
    exact Ao (by rw[hD3];exact Be (l_ b hb).2)
   ·exact(f2 b hb).2.2.2.2.1 x c (F x c e)
   ·exact I3.bs b o e
   ·exact AO I.ok.bsz I3.sz
   ·obtain⟨f,_,_,fx,_,_⟩:=f2 b z
    rcases fx with fx|fx
    ·exact I.ok.noex b o e fx
    ·have:=AB (Ak e) I.ok.bsz
     omega
   ·rcases List.mem_cons.mp (I2.stkSub b z) with r|r
    ·exact(f2 b hb).2.1 r
    ·exact(f2 b hb).2.2.1 r
   ·exact I3.stack
   ·exact I3.stkFree b hb
  refine⟨okc,(by rw[E];rfl),I3.bare,?_,?_,fun x c e=>?_,?_,fun x c e=>?_,fun p hp=>?_,?_,?_⟩
  ·rw[E]
   exact Un.kept G
  ·rw[xe]
   refine⟨_,dg,fun i x v e1 e2 e3=>?_⟩;obtain⟨c1,c2⟩:=bZ;unfold n3 at e2;rw[Ai] at e2;cases e4:au[i]? with
   |none=>rw[e4] at e2;cases e2
   |some cc=>
    rw[e4] at e2;cases cc with
    |none=>cases e2
    |some j=>
     obtain⟨y,d1,d2,d3⟩:=c2 i j e4;have cM:N'[i]?=some x:=by rw[E] at e1;exact e1
     rw[d1] at cM;have wN:y=x:=An cM;subst wN;have e5:σ[j]?=some (some v):=by
      simp only[A6,Bd] at e2;cases e6:σ[j]? with
      |none=>rw[e6] at e2;cases e2
      |some ov=>rw[e6] at e2;simp only[Option.getD_some] at e2;rw[e2]
     have hm:=PySem.mem_of_lookup d3;have uc:me X.env.scope y:=by
      rcases hfr _ hm rfl with q|q
      ·exact .inr (.inl q)
      ·exact .inr (.inr q)
     obtain⟨m,_,hl⟩:=I3.loc;obtain⟨u,ru,lk⟩:=hl j y v d2 e5 uc;refine⟨u,ru,?_⟩;have vB:∃c,X.env.cells.lookup y=some c/\l.heap.IsCell c (some u):=by
      rcases lk with ⟨k1,_⟩|⟨_,c,k2,k3⟩
      ·rcases hfr _ hm rfl with q|q
       ·rw[k1] at q;cases q
       ·rw[k1] at q;cases q
      ·exact⟨c,k2,k3⟩
     obtain⟨c,k2,k3⟩:=vB;obtain⟨d,hd'⟩:=q_ (cells:=X.env.cells) (acc:=[]) (.inl hm);obtain⟨d',aG⟩:=xC hd';have:c=d':=by
      have:=F y d' aG;rw[k2] at this;exact An this
     subst this;refine .inr ⟨?_,c,aG,k3.keeps G⟩;have rl:=Ee (scope:=scope) (env:=X.env) (x:=y) (names:=scope.names) (.inl d3);rcases rl with q|q
     ·exact .inr q
     ·exact .inl q
  ·rw[xe] at e
   obtain⟨v,k3⟩:=I3.cell x c (F x c e);exact⟨v,k3.keeps G⟩
  ·rw[xe];exact hCf
  ·rw[xe] at e
   exact I3.freeC x c (F x c e)
  ·have bE:p∈X.pn++aa:=by rw[E] at hp;exact hp
   obtain⟨a1,a2,a3,a4,a5⟩:=I3.pin p bE;refine⟨G _ _ a1,a2,?_,?_,a5⟩
   ·rw[xe]
    show p.1≠l⁻¹;exact Ao (Ak a1)
   ·rw[E]
    intro z;rcases List.mem_cons.mp (I3.stkSub p.1 z) with r|r
    ·exact a3 r
    ·exact a4 r
  ·rw[xP,xw]
   exact I3.hok.kept G
  ·unfold n3
   rw[Ab,bZ.1,E]
   rfl
 have leave:∀{L:St}{H':Hp}{O:Shared}{h':Heap},Inv Xc aa L H' O->AQ l⁻¹ O.heap h'->Inv X aa σ H' {O with heap:=h'}:=fun{L H' O h'} I4 aC=>by
  have U:∀b o,M.heap.get? b=some o->b≠D/\b≠l⁻¹:=fun b o e=>by
   have hb:=Ak e;rw[hD] at hb;exact⟨Ao hb,Ao (by rw[hD3];exact Be hb)⟩
  have Y:∀b o,M.heap.get? b=some o->l.heap.get? b=some o:=fun b o e=>by rw[h3];exact Ad _ e
  have base:Un (frs X.stack) fp (upd H2 D (.lst [])) H' l.heap O.heap:=by
   have:=I4.base;rw[E] at this;exact this
  have hCn:H' l⁻¹=none:=by
   have:=I4.free;rw[xe] at this;exact this
  have os4:O.os=M.os:=by
   have:=I4.os;rw[E] at this;rw[this];show l.os=M.os;rw[e3]
  refine I2.call' (s':={O with heap:=h'}) (ch:=fp) os4 ⟨fun b o q n hb hx=>?_,fun b o q n hb hx=>?_,fun b o q n hx=>?_,fun b o q hx=>?_,fun b xs q=>?_,fun b o u q=>?_,fun b ps q=>?_⟩ ?_ I4.bare fun b hb=>?_
  ·obtain⟨n1,n2⟩:=U b o q
   exact(aC.2 b n2).trans (base.keep b o (Y b o q) (by rw[zl n1];exact n) hb hx)
  ·obtain⟨n1,n2⟩:=U b o q
   obtain⟨sl,e⟩:=base.slot b o (Y b o q) (by rw[zl n1];exact n) hb hx;exact⟨sl,(aC.2 b n2).trans e⟩
  ·obtain⟨n1,n2⟩:=U b o q
   exact base.free b o (Y b o q) (by rw[zl n1];exact n) hx
  ·obtain⟨n1,n2⟩:=U b o q
   obtain⟨o',e⟩:=base.there b o (Y b o q) hx;exact⟨o',(aC.2 b n2).trans e⟩
  ·exact base.tups b xs (by rw[zl (zg q lU)];exact q)
  ·exact base.frzs b o u (by rw[zl (zg q lU)];exact q)
  ·exact base.tbls b ps (by rw[zl (zg q lU)];exact q)
  ·intro b u e
   have lz:=I4.hok b u e;rw[xP,xw] at lz;refine lz.stay (fun c v hc q=>(aC.2 c ?_).trans q) (fun _ q=>q) fun _ _ q=>q;rintro rfl;rcases hc with z|z
   ·rw[<-z,hCn] at e;cases e
   ·rw[hCn] at z;cases z
  ·obtain⟨f0,f1,f3,f4,f5,f6⟩:=f2 b hb
   exact⟨f4,f1,f5,f6⟩
 have P:∀{H':Hp},(∀b∈fp,H' b=none)->∀b∈fp,a_ Xc aa H' b:=fun{H'} hn b hb=>by
  obtain⟨f0,f1,f3,f4,f5,f6⟩:=f2 b hb;refine⟨hn b hb,?_,?_,.inl (by rw[E];exact hb),fun x c e=>?_,fun p hp=>?_⟩
  ·rw[xe]
   show b≠l⁻¹;exact Ao (by rw[hD3];exact Be (l_ b hb).2)
  ·rw[E]
   intro z;rcases List.mem_cons.mp (I2.stkSub b z) with r|r
   ·exact f1 r
   ·exact f3 r
  ·rw[xe] at e
   exact f5 x c (F x c e)
  ·rw[E] at hp
   exact f6 p hp
 subst E;have kG:∀n s',(∃i L H',Inv (cxC X scope N' (clOf X.env.cells scope.names []) l⁻¹ l (upd H2 D (.lst [])) fp) aa L H' s'/\tn i s'.heap/\(∀b∈fp,H' b=none)/\W i n L H')->
   codeAny (model X.prog X.w) X.A (.compLoop (.ListComp cm [⟨tg,iter,bD,0⟩] scope pos) 0 (.ref it) (.ref D) (compEnvC scope (clOf X.env.cells scope.names []) l⁻¹ X.env)) (compPost (model X.prog X.w) X.A X.xe use R (.ref D) l⁻¹) s':=by
  intro n0 Bu vW;refine codeAny_loop rfl (fun n s'=>∃i L H',Inv (cxC X scope N' (clOf X.env.cells scope.names []) l⁻¹ l (upd H2 D (.lst [])) fp) aa L H' s'/\tn i s'.heap/\(∀b∈fp,H' b=none)/\W i n L H') (fun n s' hI=>?_) n0 vW;obtain⟨i,L,H',I',ah,qJ,w'⟩:=hI;show wpAny _ X.A ((compTurn (.ListComp cm [⟨tg,iter,bD,0⟩] scope pos) 0 (.ref it) (.ref D) (compEnvC scope (clOf X.env.cells scope.names []) l⁻¹ X.env)).onRaise (fun x=>do noteFrame x (compEnvC scope (clOf X.env.cells scope.names []) l⁻¹ X.env);theTreesLotGoes x)) _ _ s';refine wpAny_noted ?_;rw[compTurn_list];refine Aa (wpAny_standAt (Aa ?_));rcases turn i n L H' w' with ⟨stop,qn⟩|⟨go,step⟩
  ·refine aL (T.done (cxC X scope N' (clOf X.env.cells scope.names []) l⁻¹ l (upd H2 D (.lst [])) fp) rfl rfl rfl hc i aa s' L H' _ I' (P qJ) ah stop) fun r O ⟨hr,I4⟩=>?_
   subst hr;refine Ac ?_;obtain⟨m,hn,_⟩:=id I4.loc;refine fin D _ H' O _ ⟨⟨m,hn⟩,I3.sz,fun e=>?_,fun x c e=>?_,fun p hp=>Ao (Ak (I3.pin p hp).1),I4.free,fun h' aC=>leave I4 aC⟩ qn
   ·obtain⟨m3,uQ,_⟩:=I3.loc
    obtain⟨o3,_,_,nV,_⟩:=uQ;exact absurd e.symm (Ao (Ak nV))
   ·obtain⟨v,hv⟩:=I3.cell x c e
    obtain⟨o3,nV,_⟩:=hv;exact Ao (Ak nV)
  ·refine aL (T.item (cxC X scope N' (clOf X.env.cells scope.names []) l⁻¹ l (upd H2 D (.lst [])) fp) rfl rfl rfl hc i aa s' L H' _ I' (P qJ) ah go) fun r O ⟨u,hr,h4⟩=>?_
   subst hr;refine Aa (aL h4 fun _ s5 ⟨x,H5,I5,r5,y5,st5,fr5⟩=>?_);have pc:=I5.pinned (P fr5) (T.obj _ _ st5);refine Aa (wpAny_mono (mT _ s5 L H5 x u _ pc r5 (step x H5 y5)) (fun _ s6 h6=>?_) fun _ _ z=>z.elim);obtain⟨jP,H6,I6,q6⟩:=h6;refine Aa (wpAny_mono (ht' _ s6 jP H6 _ I6 q6) (fun ok s7 h7=>?_) fun _ _ z=>z.elim);obtain⟨H7,I7,q7⟩:=h7;have again:∀{lP:St}{H8:Hp}{s8:Shared}{m':Nat},Inv (cxC X scope N' (clOf X.env.cells scope.names []) l⁻¹ l (upd H2 D (.lst [])) fp) (aa++mV fp s5.heap) lP H8 s8->m'<n->W (i+1) m' lP H8->
     ∃m,m<n/\∃i L H',Inv (cxC X scope N' (clOf X.env.cells scope.names []) l⁻¹ l (upd H2 D (.lst [])) fp) aa L H' s8/\tn i s8.heap/\(∀b∈fp,H' b=none)/\W i m L H':=fun{lP H8 s8 m'} I8 hm w8=>by
    refine⟨m',hm,i+1,lP,H8,I8.unpinned,T.keep _ _ _ st5 fun b hb o e=>(I8.pin (b,o) (List.mem_append_right _ (List.mem_append_right _ (qo hb e)))).1,fun b hb=>?_,w8⟩;obtain⟨o,e,d⟩:=T.obj _ _ st5 b hb;exact(I8.pin (b,o) (List.mem_append_right _ (List.mem_append_right _ (qo hb e)))).2.1
   cases ok with
   |false=>
    obtain⟨m',hm,w7⟩:=q7;exact Ac ⟨rfl,again I7 hm w7⟩
   |true=>
    refine Aa (Aa (wpAny_mono (he' _ s7 jP H7 _ I7 q7) (fun v s8 h8=>?_) fun _ _ z=>z.elim));obtain⟨y,H8,I8,r8,ys,m',uC,xZ,sd,w8⟩:=h8;refine Aa (wpAny_mono (qX (X:=cxC X scope N' (clOf X.env.cells scope.names []) l⁻¹ l (upd H2 D (.lst [])) fp) _ s8 jP H8 (.ref D) [y] (.ref D) [v] (fun _ H9=>H9=upd H8 D (.lst (ys++[y]))) I8 rfl (.cons r8 .nil) ⟨D,ys,y,rfl,rfl,uC,xZ,rfl⟩) (fun _ s9 h9=>?_) fun _ _ z=>z.elim);obtain⟨_,H9,I9,_,e9⟩:=h9;subst e9;exact Ac (Ac ⟨rfl,again I9 sd w8⟩)
 have start:∃i L H',Inv (cxC X scope N' (clOf X.env.cells scope.names []) l⁻¹ l (upd H2 D (.lst [])) fp) aa L H' {l with heap:=Z}/\tn i ({l with heap:=Z}:Shared).heap/\(∀b∈fp,H' b=none)/\W i m0 L H':=by
  refine⟨0,n3 au σ,upd H2 D (.lst []),Ic,T.keep 0 _ _ fe fun b hb o e=>G b o (by rw[h3];exact Ad _ e),fun b hb=>?_,w0⟩;rw[zl (l_ b hb).1];exact(f2 b hb).1
 have es:({M with heap:=Z,toks:=M.toks+([]:List (Str×Value)).length}:Shared)={l with heap:=Z}:=by rw[e3];rfl
 show codeAny (model X.prog X.w) X.A _ _ ({M with heap:=Z,toks:=M.toks+([]:List (Str×Value)).length}:Shared);rw[es];refine codeAny_compStart_list (kG m0 _ start) (T.self _ 0 _ _ _ ?_ (kG m0 _ start));exact T.keep 0 _ _ fe fun b hb o e=>G b o (by rw[h3];exact Ad _ e)
def JE(hc:X.calm=true)(hk:scope.kind=.function)(b:∀y∈scope.names,y.2≠.cell)(e:∀y∈scope.names,y.2=.local->scope.names.lookup y.1=some .local)(hfr:∀y∈scope.names,y.2=.free->X.env.kindOf y.1=some .cell\/X.env.kindOf y.1=some .free)(i:rg X.N N' au scope)(hi:PI X tg iter wi)(j:∀a C s₀ H₀ ex,PG (cxC X scope N' a C s₀ H₀ ex) tg g)(l:∀a C s₀ H₀ ex,jl (cxC X scope N' a C s₀ H₀ ex) bD tc)(he:∀a C s₀ H₀ ex,PE (cxC X scope N' a C s₀ H₀ ex) cm te)(hs:∀x,foldedSetIterable iter X.env x=pure x:=by intro _;rfl):PE X (.ListComp cm [⟨tg,iter,bD,0⟩] scope pos) (k9 wi au g tc te):=by
 intro aa s σ H Q I h;rw[eval_ListComp];refine Ef (use:=none) hc hk b e hfr i hi j l he hs I h fun D C H' o f L q=>?_;obtain⟨m,d⟩:=L.ns;exact⟨m,d,fun h' c=>⟨.ref D,H',L.back h' c,rfl,q⟩⟩
end
end L2
end
section
namespace Zp
open PySem PySem.Spec PyProof.Rows
section
variable{prog:Program}{w:World}{A:Around}{E:Ω}{s:Shared}
def JF{it t:Addr}{i:Nat}{c:Array Value}{x:Value}{Q:Ω}(b:s.heap.IsTupleIter it t i)(f:s.heap.IsTuple t c)(hx:c[i]?=some x)(g:∀h',h'.IsTupleIter it t (i+1)->AQ it s.heap h'->Q x {s with heap:=h'}):wpAny (model prog w) A (Builtin.SmallTypes.nextOf (.ref it)) Q E s:=by
 obtain⟨o,a,hc,hd⟩:=id b;obtain⟨h,d,_,j,e⟩:=f;unfold Builtin.SmallTypes.nextOf;refine Aa (AS (name:=Bm "__next__") b.typeIs F.slot_tuple_iterator_next (AC F.slot_tuple_iterator_next b.typeIs F.entry_tuple_iterator_next ?_ (F.args_tuple_iterator_next_1 _)));show wpAny _ _ (field (.ref it) 0 >>= _) _ _ s;refine Aa (AT a hd (x:=.ref t) rfl ?_);show wpAny _ _ (if(Value.ref t==Value.none)=true then _ else _) _ _ s;rw[if_neg (show ¬((Value.ref t==Value.none)=true) from Aq)];show wpAny _ _ (field (.ref it) 1 >>= _) _ _ s;refine Aa (AT a hd (x:=.int i 0) rfl ?_);show wpAny _ _ (seqItems? (.ref t) >>= _) _ _ s;refine Aa (wpAny_seqItems d e ?_);simp only[Bg,hx];refine Aa (Bk a hd (by simp) (Ac ⟨x,rfl,Ac (g _ ?_ (AL ..))⟩));exact⟨_,A5 _ a (Obj.isFreed_of_fields (A1 hd _)),(Obj.cls_mapFields ..).trans hc,by
  rw[A1 hd];simp[rawInt]⟩
def JG{it t:Addr}{i:Nat}{d:Array Value}{Q:Ω}(f:A.handled=none)(c:s.heap.IsTupleIter it t i)(j:s.heap.IsTuple t d)(hx:d[i]?=none)(l:∀h' e,Heap.ExtBut it s.heap h'->(∃o,h'.get? e=some o/\o.cls=.type "StopIteration")->E (.ref e) {s with heap:=h'}):wpAny (model prog w) A (Builtin.SmallTypes.nextOf (.ref it)) Q E s:=by
 obtain⟨o,b,hc,hd⟩:=id c;obtain⟨p,g,_,q,h⟩:=j;unfold Builtin.SmallTypes.nextOf;refine Aa (AS (name:=Bm "__next__") c.typeIs F.slot_tuple_iterator_next (AC F.slot_tuple_iterator_next c.typeIs F.entry_tuple_iterator_next ?_ (F.args_tuple_iterator_next_1 _)));show wpAny _ _ (field (.ref it) 0 >>= _) _ _ s;refine Aa (AT b hd (x:=.ref t) rfl ?_);show wpAny _ _ (if(Value.ref t==Value.none)=true then _ else _) _ _ s;rw[if_neg (show ¬((Value.ref t==Value.none)=true) from Aq)];show wpAny _ _ (field (.ref it) 1 >>= _) _ _ s;refine Aa (AT b hd (x:=.int i 0) rfl ?_);show wpAny _ _ (seqItems? (.ref t) >>= _) _ _ s;refine Aa (wpAny_seqItems g h ?_);simp only[Bg,hx];refine Aa (wpAny_rule (Aa (Bk b hd (by simp) ?_)));show wpAny _ _ (newExc (.type "StopIteration") [] >>= _) _ _ _;refine Aa ?_;simp only[newExc,newTuple];refine Aa (AF ?_ (by size_fits));refine Aa (m:=firstArgMember _ _) (Bi (a:=Value.none) (by first|rfl|(simp only[firstArgMember];rfl)) ?_);refine AF ?_ (by size_fits);simp only[raiseNew];refine Aa (wpAny_handled ?_)
 first|rw[show A.in1.handled=none from f]|rw[f]
 refine Aa (Ac (wpAny_throw ?_));exact l _ _ (((AL ..).extBut.push _).push _) ⟨_,Al _ rfl,rfl⟩
end
def JH{h h':Heap}{a:Addr}{b:Array Value}(x:h.IsTuple a b)(e:∀o,h.get? a=some o->h'.get? a=some o):h'.IsTuple a b:=let ⟨o,ho,r⟩:=x;⟨o,e o ho,r⟩
def Eg{prog:Program}{w:World}{A:Around}(j:A.handled=none)(it t:Addr)(b:t≠it)(a:Array Value):Draws prog w A it [it,t] a.size (fun i v=>a[i]?=some v) (fun i h=>h.IsTupleIter it t i/\h.IsTuple t a) where
 live:=fun _ _ st=>let ⟨o,ho,_⟩:=st.1;⟨o,ho⟩
 frame:=fun _ _ _ st hk=>⟨st.1.at fun o e=>hk it (by simp) o e,JH st.2 fun o e=>hk t (by simp) o e⟩
 item:=fun i s Q E hi st d=>by
  refine JF st.1 st.2 (x:=a[i]) (by simp[hi]) fun h' f c=>?_;exact d _ h' s.toks (by simp[hi]) ⟨f,st.2.extBut c.extBut b⟩ c
 done:=fun s Q E st g=>JG j st.1 st.2 (by simp) g
structure Apart(z TI TO i1 i2:Addr)(cj ck:List Addr):Prop where
 z1:z∉cj
 z2:z∉ck
 o1:TO∉cj
 o2:TO∉ck
 m1:i1∈cj
 m2:i2∈ck
 x12:i1∉ck
 x21:i2∉cj
 TIz:TI≠z
 TOz:TO≠z
 TITO:TI≠TO
 TIi1:TI≠i1
 TIi2:TI≠i2
section
variable{prog:Program}{w:World}{A:Around}{E:Ω}{s:Shared}{z TI TO i1 i2:Addr}{cj ck:List Addr}{n1 n2 i:Nat}{P1 P2:Nat->Value->Prop}{S1 S2:Nat->Heap->Prop}{a b:Value}
def JI{Q:Ω}(D1:Draws prog w A i1 cj n1 P1 S1)(D2:Draws prog w A i2 ck n2 P2 S2)(D:Apart z TI TO i1 i2 cj ck)(hz:IsZip s.heap z TI TO .none)(eO:IsPair s.heap TI (.ref i1) (.ref i2))(eP:IsPair s.heap TO a b)(h1:S1 i s.heap)(h2:S2 i s.heap)(l1:i<n1)(l2:i<n2)(hQ:∀x y h' tk,P1 i x->P2 i y->IsZip h' z TI TO (rawInt s⁻¹)->IsPair h' TO x y->S1 (i+1) h'->S2 (i+1) h'->IsPair h' s⁻¹ x y->h'.objs.size=s⁻¹+1->
   (∀c o,c≠z->c≠TO->c≠i1->c≠i2->s.heap.get? c=some o->h'.get? c=some o)->Q (.ref s⁻¹) {s with heap:=h',toks:=tk}):
  wpAny (model prog w) A (Builtin.«zip.__next__» ⟨[.ref z],[]⟩) (fun fin s'=>∃v,fin=.done (.ret v)/\Q v s') E s:=by
 have g:∀c∈cj,c≠z:=fun c hc e=>D.z1 (e▸hc);have I:∀c∈ck,c≠z:=fun c hc e=>D.z2 (e▸hc);have J:∀c∈cj,c≠TO:=fun c hc e=>D.o1 (e▸hc);have L:∀c∈ck,c≠TO:=fun c hc e=>D.o2 (e▸hc);have oS:∀c∈ck,c≠i1:=fun c hc e=>D.x12 (e▸hc);have vY:∀c∈cj,c≠i2:=fun c hc e=>D.x21 (e▸hc);have lO:i1≠z:=g _ D.m1;have oA:i2≠z:=I _ D.m2;have ik:TO≠i1:=(J _ D.m1).symm;have mF:TO≠i2:=(L _ D.m2).symm;show wpAny _ _ (field (.ref z) 2 >>= _) _ _ _;refine Aa (AT hz rfl (x:=.bool false) rfl ?_);show wpAny _ _ (field (.ref z) 3 >>= _) _ _ _;refine Aa (AT hz rfl (x:=.ref TI) rfl ?_);refine Aa (wpAny_seqItems eO rfl ?_);show wpAny _ _ (Builtin.SmallTypes.ownedTupleIsFree (.ref z) >>= _) _ _ _;refine Aa ?_;unfold Builtin.SmallTypes.ownedTupleIsFree;refine Aa (AT hz rfl (x:=.none) rfl (Ac ?_));simp only[if_true];refine Aa (wpAny_rule ?_);refine Aa (AT hz rfl (x:=.ref TO) rfl ?_);refine Aa (wpAny_setField_rec hz (by simp) fun g1 d k1=>?_);replace d:IsZip g1 z TI TO .ellipsis:=d;refine Aa ?_;simp only[List.zipIdx_cons,List.zipIdx_nil,List.forIn_cons,List.forIn_nil];refine Aa (Aa (wpAny_onRaise ?_));show wpAny _ _ (Builtin.SmallTypes.nextOf (.ref i1) >>= _) _ _ _;refine Aa (D1.item i _ _ _ l1 (D1.frame _ _ _ h1 fun c hc o e=>k1.extBut c o (g c hc) e) fun x g2 iy U W k2=>Ac ?_);have M:IsPair g2 TO a b:=k2.extBut _ _ ik (k1.extBut _ _ D.TOz eP);refine Aa (wpAny_seqItems M rfl ?_);refine Aa (wpAny_updateSeq_pair M fun g3 r k3=>?_);replace r:IsPair g3 TO x b:=r;refine Aa (wpAny_letGo (Ac ?_));refine Aa (Aa (wpAny_onRaise ?_));show wpAny _ _ (Builtin.SmallTypes.nextOf (.ref i2) >>= _) _ _ _;refine Aa (D2.item i _ _ _ l2 (D2.frame _ _ _ h2 fun c hc o e=>k3.extBut c o (L c hc) (k2.extBut c o (oS c hc) (k1.extBut c o (I c hc) e))) fun y g4 yP X Y h=>Ac ?_);have N:IsPair g4 TO x b:=h.extBut _ _ mF r;refine Aa (wpAny_seqItems N rfl ?_);refine Aa (wpAny_updateSeq_pair N fun g5 l k5=>?_);replace l:IsPair g5 TO x y:=l;refine Aa (wpAny_letGo (Ac (Ac ?_)));refine Aa (wpAny_seqItems l rfl ?_);refine Aa (wpAny_newTuple ?_);have hsz:g5.objs.size=s⁻¹:=by rw[k5.1,h.1,k3.1,k2.1,k1.1]
 have O:IsZip g5 z TI TO .ellipsis:=k5.extBut _ _ D.TOz.symm (h.extBut _ _ oA.symm (k3.extBut _ _ D.TOz.symm (k2.extBut _ _ lO.symm d)));have kk:∀c o,c≠z->c≠TO->c≠i1->c≠i2->s.heap.get? c=some o->g5.get? c=some o:=fun c o f p u C e=>
  k5.extBut _ _ p (h.extBut _ _ C (k3.extBut _ _ p (k2.extBut _ _ u (k1.extBut _ _ f e))))
 have d1:S1 (i+1) g5:=D1.frame _ _ _ W fun c hc o e=>k5.extBut c o (J c hc) (h.extBut c o (vY c hc) (k3.extBut c o (J c hc) e));have d2:S2 (i+1) g5:=D2.frame _ _ _ Y fun c hc o e=>k5.extBut c o (L c hc) e;have P:z<g5.objs.size:=Ak O;have e1:∀c∈cj,∀o,g5.get? c=some o->c<g5.objs.size:=fun c _ o e=>Ak e;show wpAny _ _ (Builtin.SmallTypes.ownedTupleHandOut (.ref z) (.ref g5.objs.size) >>= _) _ _ _;refine Aa ?_;unfold Builtin.SmallTypes.ownedTupleHandOut;have z6:IsZip (g5.push {cls:=.type "tuple",data:=.seq #[x,y]}) z TI TO .ellipsis:=Ad _ O;refine Aa (wpAny_setField_rec z6 (by simp) fun Z F G=>?_);replace F:IsZip Z z TI TO (rawInt g5.objs.size):=F;refine wpAny_setField_rec F (by simp) fun j q H=>?_;replace q:IsZip j z TI TO (rawInt g5.objs.size):=q;have up:∀c o,c≠z->g5.get? c=some o->j.get? c=some o:=fun c o f e=>H.extBut _ _ f (G.extBut _ _ f (Ad _ e));have T:IsPair j g5.objs.size x y:=H.extBut _ _ (Nat.ne_of_gt P) (G.extBut _ _ (Nat.ne_of_gt P) (Al _ rfl));have S:j.objs.size=g5.objs.size+1:=by rw[H.1,G.1,Heap.size_push]
 rw[hsz] at q T S;refine Ac ⟨_,rfl,?_⟩;show Q (.ref g5.objs.size) _;rw[hsz];exact hQ x y j _ U X q (up _ _ D.TOz l) (D1.frame _ _ _ d1 fun c hc o e=>up c o (g c hc) e) (D2.frame _ _ _ d2 fun c hc o e=>up c o (I c hc) e) T S fun c o f p u C e=>up c o f (kk c o f p u C e)
def JJ{Q:Fin->Shared->Prop}(D1:Draws prog w A i1 cj n1 P1 S1)(D2:Draws prog w A i2 ck n2 P2 S2)(D:Apart z TI TO i1 i2 cj ck)(hz:IsZip s.heap z TI TO .none)(T:IsPair s.heap TI (.ref i1) (.ref i2))(U:IsPair s.heap TO a b)(h1:S1 i s.heap)(h2:S2 i s.heap)(J:i=n1\/(i<n1/\i=n2))(G:∀h' e tk,(∀c o,c≠z->c≠TO->c≠i1->c≠i2->s.heap.get? c=some o->h'.get? c=some o)->(∃o,h'.get? e=some o/\o.cls=.type "StopIteration")->E (.ref e) {s with heap:=h',toks:=tk}):wpAny (model prog w) A (Builtin.«zip.__next__» ⟨[.ref z],[]⟩) Q E s:=by
 have j:∀c∈cj,c≠z:=fun c hc e=>D.z1 (e▸hc);have v:∀c∈ck,c≠z:=fun c hc e=>D.z2 (e▸hc);have M:∀c∈cj,c≠TO:=fun c hc e=>D.o1 (e▸hc);have N:∀c∈ck,c≠TO:=fun c hc e=>D.o2 (e▸hc);have O:∀c∈ck,c≠i1:=fun c hc e=>D.x12 (e▸hc);have y:i1≠z:=j _ D.m1;have P:i2≠z:=v _ D.m2;have S:TO≠i1:=(M _ D.m1).symm;show wpAny _ _ (field (.ref z) 2 >>= _) _ _ _;refine Aa (AT hz rfl (x:=.bool false) rfl ?_);show wpAny _ _ (field (.ref z) 3 >>= _) _ _ _;refine Aa (AT hz rfl (x:=.ref TI) rfl ?_);refine Aa (wpAny_seqItems T rfl ?_);show wpAny _ _ (Builtin.SmallTypes.ownedTupleIsFree (.ref z) >>= _) _ _ _;refine Aa ?_;unfold Builtin.SmallTypes.ownedTupleIsFree;refine Aa (AT hz rfl (x:=.none) rfl (Ac ?_));simp only[if_true];refine Aa (wpAny_rule ?_);refine Aa (AT hz rfl (x:=.ref TO) rfl ?_);refine Aa (wpAny_setField_rec hz (by simp) fun g1 d k1=>?_);replace d:IsZip g1 z TI TO .ellipsis:=d;refine Aa ?_;simp only[List.zipIdx_cons,List.zipIdx_nil,List.forIn_cons,List.forIn_nil];refine Aa (Aa (wpAny_onRaise ?_));have f1:=D1.frame _ _ _ h1 fun c hc o e=>k1.extBut c o (j c hc) e;rcases J with p|⟨L,p⟩
 ·show wpAny _ _ (Builtin.SmallTypes.nextOf (.ref i1) >>= _) _ _ _
  refine Aa (D1.done _ _ _ (p▸f1) fun g2 e k2 he=>?_);obtain⟨q,f,h⟩:=he;have z2:IsZip g2 z TI TO .ellipsis:=k2 _ _ y.symm d;have r:e≠z:=fun x=>by subst x;rw[z2] at f;cases f;simp at h
  refine wpAny_setField_rec z2 (by simp) fun g3 _ k3=>G g3 e _ (fun c o g _ l _ x=>k3.extBut _ _ g (k2 _ _ l (k1.extBut _ _ g x))) ⟨q,k3.extBut _ _ r f,h⟩
 ·show wpAny _ _ (Builtin.SmallTypes.nextOf (.ref i1) >>= _) _ _ _
  refine Aa (D1.item i _ _ _ L f1 fun x g2 W X Y k2=>Ac ?_);have C:IsPair g2 TO a b:=k2.extBut _ _ S (k1.extBut _ _ D.TOz U);refine Aa (wpAny_seqItems C rfl ?_);refine Aa (wpAny_updateSeq_pair C fun g3 Z k3=>?_);refine Aa (wpAny_letGo (Ac ?_));refine Aa (Aa (wpAny_onRaise ?_));have f2:S2 i g3:=D2.frame _ _ _ h2 fun c hc o e=>k3.extBut c o (N c hc) (k2.extBut c o (O c hc) (k1.extBut c o (v c hc) e));show wpAny _ _ (Builtin.SmallTypes.nextOf (.ref i2) >>= _) _ _ _;refine Aa (D2.done _ _ _ (p▸f2) fun g4 e u he=>?_);obtain⟨q,f,h⟩:=he;have F:IsZip g4 z TI TO .ellipsis:=u _ _ P.symm (k3.extBut _ _ D.TOz.symm (k2.extBut _ _ y.symm d));have r:e≠z:=fun x=>by subst x;rw[F] at f;cases f;simp at h
  refine wpAny_setField_rec F (by simp) fun g5 _ k5=>G g5 e _ (fun c o g H l I x=>k5.extBut _ _ g (u _ _ I (k3.extBut _ _ H (k2.extBut _ _ l (k1.extBut _ _ g x))))) ⟨q,k5.extBut _ _ r f,h⟩
end
def JK{prog:Program}{w:World}{A:Around}{z TI TO i1 i2:Addr}{cj ck:List Addr}{n1 n2:Nat}{P1 P2:Nat->Value->Prop}{S1 S2:Nat->Heap->Prop}(D1:Draws prog w A.in1 i1 cj n1 P1 S1)(D2:Draws prog w A.in1 i2 ck n2 P2 S2)(D:Apart z TI TO i1 i2 cj ck):WalksT prog w A z (z::TI::TO::(cj++ck)) [z,TO,i1,i2] (min n1 n2) (fun i vals=>∃x y,P1 i x/\P2 i y/\vals=#[x,y])
   (fun i h=>IsZip h z TI TO .none/\IsPair h TI (.ref i1) (.ref i2)/\(∃a b,IsPair h TO a b)/\S1 i h/\S2 i h)
   (fun i T h=>IsZip h z TI TO (rawInt T)/\IsPair h TI (.ref i1) (.ref i2)/\(∃a b,IsPair h TO a b)/\S1 (i+1) h/\S2 (i+1) h/\T≠z/\T≠TO/\T≠i1/\T≠i2) where
 sub:=fun c hc=>by
  simp at hc ⊢;rcases hc with rfl|rfl|rfl|rfl
  ·simp
  ·simp
  ·exact .inr (.inr (.inr (.inl D.m1)))
  ·exact .inr (.inr (.inr (.inr D.m2)))
 frame:=fun i h h' d hk=>by
  obtain⟨hz,f,⟨a,b,g⟩,h1,h2⟩:=d;exact⟨hk z (by simp) _ hz,hk TI (by simp) _ f,⟨a,b,hk TO (by simp) _ g⟩,D1.frame _ _ _ h1 fun c hc o e=>hk c (by simp[hc]) o e,D2.frame _ _ _ h2 fun c hc o e=>hk c (by simp[hc]) o e⟩
 item:=fun i s Q E hi d j=>by
  obtain⟨hz,f,⟨a,b,g⟩,h1,h2⟩:=d;have hT:s.TypeIs (.ref z) "zip":=⟨_,hz,rfl⟩;unfold pyNext;refine Aa (wpAny_attempt (AS (name:=Bm "__next__") hT F.slot_zip_next (AC F.slot_zip_next hT F.entry_zip_next
   (JI D1 D2 D hz f g h1 h2 (AB hi (Nat.min_le_left ..)) (AB hi (Nat.min_le_right ..)) fun x y h' tk p r u v C G H W hk=>Ac ?_) (F.args_zip_next_1 _))))
  have lt:∀{c o},s.heap.get? c=some o->s⁻¹≠c:=fun e=>Nat.ne_of_gt (Ak e);obtain⟨X,J⟩:=D1.live _ _ h1;obtain⟨Y,L⟩:=D2.live _ _ h2;exact j s⁻¹ #[x,y] h' tk ⟨_,_,p,r,rfl⟩ (Ag _) ⟨_,H,rfl,_,rfl⟩ ⟨u,hk _ _ D.TIz D.TITO D.TIi1 D.TIi2 f,⟨_,_,v⟩,C,G,lt hz,lt g,lt J,lt L⟩
   fun c o hc e=>hk c o (fun x=>hc (by simp[x])) (fun x=>hc (by simp[x])) (fun x=>hc (by simp[x])) (fun x=>hc (by simp[x])) e
 go:=fun bT k pos i T s Q E hm j=>by
  obtain⟨hz,f,⟨a,b,g⟩,h1,h2,_⟩:=hm;refine wpAny_letOwnedTupleGo_zip hz fun h' I l=>j h' ⟨I,l.extBut _ _ D.TIz f,⟨a,b,l.extBut _ _ D.TOz g⟩,
   D1.frame _ _ _ h1 fun c hc o e=>l.extBut c o (fun q=>D.z1 (q▸hc)) e,D2.frame _ _ _ h2 fun c hc o e=>l.extBut c o (fun q=>D.z2 (q▸hc)) e⟩ fun c o hc e=>l.extBut _ _ (fun x=>hc (by simp[x])) e
 apart:=fun i T h hm hT=>by
  obtain⟨_,_,_,_,_,M,N,O,P⟩:=hm;simp at hT;rcases hT with rfl|rfl|rfl|rfl
  ·exact M rfl
  ·exact N rfl
  ·exact O rfl
  ·exact P rfl
 done:=fun s Q E d j=>by
  obtain⟨hz,f,⟨a,b,g⟩,h1,h2⟩:=d;have hT:s.TypeIs (.ref z) "zip":=⟨_,hz,rfl⟩;have U:min n1 n2=n1\/(min n1 n2<n1/\min n1 n2=n2):=ω
  unfold pyNext;refine Aa (wpAny_attempt (AS (name:=Bm "__next__") hT F.slot_zip_next
   (AC F.slot_zip_next hT F.entry_zip_next (JJ D1 D2 D hz f g h1 h2 U fun h' e tk hk he=>?_) (F.args_zip_next_1 _))))
  obtain⟨o,S,hc⟩:=he;refine Aa (A8 (T:="StopIteration") (b:=true) ⟨o,S,hc⟩ isSubtype_stop ?_);exact Ac (j _ tk fun c o hc e=>hk c o (fun x=>hc (by simp[x])) (fun x=>hc (by simp[x])) (fun x=>hc (by simp[x])) (fun x=>hc (by simp[x])) e)
 self:=fun i s Q E d j=>wpAny_pyIter_zip d.1 j
end Zp
end
section
namespace L2
open PySem PySem.Spec PyProof.Rows
section
variable{X:Cx}{aa:Ψ}{σ:St}{H:Hp}{s:Shared}{h':Heap}
def Inv.turneds{t':Nat}{ch:List Addr}(I:Inv X aa σ H s)(hf:∀b∈ch,a_ X aa H b)(k:∀b o,b∉ch->s.heap.get? b=some o->h'.get? b=some o):Inv X aa σ H {s with heap:=h',toks:=t'}:=by
 have a:∀b u,H b=some u->b∉ch:=fun b u e z=>by have:=(hf b z).1;rw[this] at e;cases e
 refine I.step (g':=s.gens) (d':=s.drawn) (ch:=ch) (fun b hb=>?_) (fun b o _ _ hc e _=>k b o hc e) (fun b o _ _ hc e _=>⟨o.slots,k b o hc e⟩) (fun _ _ _ _ n=>n)
  (fun b o hc e=>⟨o,k b o hc e⟩) (fun _ _ e=>e) (fun _ _ _ e=>e) (fun b ps e=>⟨#[],by rw[e];simp⟩) (fun m hm=>?_) (fun b u e=>?_) I.bare
 ·obtain⟨f0,f1,f2,f3,f4,f5⟩:=hf b hb
  exact⟨f3,f1,f4,f5⟩
 ·obtain⟨o,es,ep,d,r⟩:=hm
  exact⟨o,es,ep,k _ o (fun z=>(hf _ z).2.1 rfl) d,r⟩
 ·refine(I.hok b u e).stay (fun c v hc q=>k c v ?_ q) (fun _ q=>q) fun _ _ q=>q
  rcases hc with z|z
  ·rw[z];exact a b u e
  ·exact a c _ z
def Inv.adopt{a:Addr}{o:HO}(I:Inv X aa σ H s)(d:H a=none)(h1:X.s₀⁻¹<=a)(h2:a≠X.env.locals)(f:∀x c,X.env.cells.lookup x=some c->c≠a)(g:∀p∈X.pn++aa,p.1≠a)(new:zB X.prog X.w (upd H a o) s.heap a o):Inv X aa σ (upd H a o) s:=by
 refine I.step (h':=s.heap) (g':=s.gens) (t':=s.toks) (d':=s.drawn) (ch:=[a]) (fun b hb=>?_) (fun b o _ _ hc e _=>e) (fun b o _ _ hc e _=>⟨o.slots,e⟩) (fun b o hc e n=>?_)
  (fun b o hc e=>⟨o,e⟩) (fun b xs e=>?_) (fun b o u e=>?_) (fun b ps e=>⟨#[],?_⟩) (fun m hm=>hm) (fun b u e=>?_) I.bare
 ·have e:b=a:=by simpa using hb
  subst e;exact⟨.inr h1,h2,f,g⟩
 ·rw[zl (fun z=>hc (by simp[z]))];exact n
 ·rw[zl (zg e d)];exact e
 ·rw[zl (zg e d)];exact e
 ·rw[zl (zg e d),e];simp
 ·by_cases hb:b=a
  ·subst hb;rw[ai] at e;cases e;exact new
  ·rw[zl hb] at e
   exact(I.hok b u e).stay (fun _ _ _ q=>q) (fun c q=>by rw[zl (zg q d)];exact q) fun c xs q=>by rw[zl (zg q d)];exact q
def Inv.grown{t':Nat}{ch:List Addr}{a:Addr}{o:HO}(I:Inv X aa σ H s)(hf:∀b∈ch,a_ X aa H b)(k:∀b o,b∉ch->s.heap.get? b=some o->h'.get? b=some o)(hp:s⁻¹<=a)(new:zB X.prog X.w (upd H a o) h' a o):Inv X aa σ (upd H a o) {s with heap:=h',toks:=t'}:=by
 have I1:Inv X aa σ H {s with heap:=h',toks:=t'}:=I.turneds hf k;obtain⟨f0,f1,f2,f3,f4,f5⟩:=I.fpOk hp (I.hok.fresh hp);exact I1.adopt f0 (AO I.sz hp) f1 f4 f5 new
def Eh{b t:Addr}{o:Obj}(I:Inv X aa σ H s)(f:a_ X aa H b)(hk:X.K.lookup t=some o):t≠b:=by
 intro z;subst z;have e:=I.ok.mod.kin t o hk;rcases f.2.2.2.1 with q|q
 ·exact I.ok.noex t o e q
 ·exact absurd (AB (Ak (I.ok.bs t o e).1) q) (Nat.lt_irrefl _)
def Ei{b t:Addr}{xs:List V}(I:Inv X aa σ H s)(f:a_ X aa H b)(h:SqT X.K H t xs):t≠b:=by
 rcases h with (h|⟨o,h⟩)|⟨o,_,_,hk,_⟩
 ·exact zg h f.1
 ·exact zg h f.1
 ·exact Eh I f hk
def JL{b t:Addr}{xs:List V}(I:Inv X aa σ H s)(f:a_ X aa H b)(h:SqL X.K H t xs):t≠b:=by
 rcases h with (h|⟨o,h⟩)|⟨o,_,_,hk,_⟩
 ·exact zg h f.1
 ·exact zg h f.1
 ·exact Eh I f hk
end
def Ej{P:Program}{w:World}{K:Ae}{J:It}{fp wr:List Addr}{it:Addr}{a:Nat->Heap->Prop}{bT:List Expr}{k:Nat}{pos:Pos}(mem:it∈fp)(obj:∀i h,a i h->∀b∈fp,∃o,h.get? b=some o/\∀v,o.data≠.cell v)(keep:∀i h h',a i h->(∀b∈fp,∀o,h.get? b=some o->h'.get? b=some o)->a i h')(hw:∀b∈wr,b∈fp)(W:∀(X:Cx),X.prog=P->X.w=w->X.K=K->X.calm=true->∀(i:Nat)(aa:Ψ)(s:Shared)(σ:St)(H:Hp),Inv X aa σ H s->(∀b∈fp,a_ X aa H b)->a i s.heap->(J.go i H\/J.stop i H)->
   ∃(x:List Addr)(n:Nat)(u:Nat->Array Value->Prop)(S:Nat->Heap->Prop)(y:Nat->Addr->Heap->Prop),WalksT P w X.A it x wr n u S y/\S i s.heap/\(∀j h,S j h->a j h)/\
    (J.go i H->i<n/\∀vals,u i vals->∃xs:List V,Vals xs vals.toList/\xs.length<=sizeLine/\∀p,H p=none->J.yld i H (.ref p) (upd H p (.tup xs)))/\(J.stop i H->i=n))
  (self:∀(A:Around)(i:Nat)(s:Shared)(Q:Ω)(E:Ω),a i s.heap->Q (.ref it) s->wpAny (model P w) A (pyIter (.ref it)) Q E s) :
  Turn P w K (.Tuple bT k pos) J fp it a where
 mem:=mem
 obj:=obj
 keep:=keep
 item:=by
  intro X c d f hc i aa s σ H E I hf st l;obtain⟨x,n,u,S,y,WT,z,C,g,_⟩:=W X c d f hc i aa s σ H I hf st (.inl l);obtain⟨hi,M⟩:=g l;subst c d f;refine WT.item i s _ _ hi z fun T vals h' tk hp hT D hm hk=>⟨.ref T,rfl,?_⟩;obtain⟨xs,N,hz,hy⟩:=M vals hp;have I1:Inv X aa σ (upd H T (.tup xs)) {s with heap:=h',toks:=tk}:=I.grown (ch:=wr) (fun b hb=>hf b (hw b hb)) hk hT (show zB X.prog X.w _ h' T (.tup xs) from⟨hz,vals.toList,N,by have q:IsTup h' T vals:=D;simpa using q⟩);have O:∀b∈fp,b≠T:=fun b hb=>by
   obtain⟨o,e,_⟩:=obj i _ st b hb;exact Ao (AB (Ak e) hT)
  have r:∀b∈fp,a_ X aa (upd H T (.tup xs)) b:=fun b hb=>by
   obtain⟨f0,fr⟩:=hf b hb;exact⟨by rw[zl (O b hb)];exact f0,fr⟩
  refine WT.go bT k pos i T _ _ _ hm fun F G L=>?_;have U:Inv X aa σ (upd H T (.tup xs)) {s with heap:=F,toks:=tk}:=I1.turneds (s:={s with heap:=h',toks:=tk}) (t':=tk) (ch:=wr) (fun b hb=>r b (hw b hb)) L;exact⟨.ref T,_,U,rfl,hy T (I.hok.fresh hT),C _ _ G,fun b hb=>(r b hb).1⟩
 done:=by
  intro X c d f hc i aa s σ H E I hf st l;obtain⟨x,n,u,S,y,WT,z,C,_,g⟩:=W X c d f hc i aa s σ H I hf st (.inr l);subst c d f;have e:=g l;subst e;exact WT.done s _ _ z fun h' tk hk=>⟨rfl,I.turneds (ch:=wr) (fun b hb=>hf b (hw b hb)) hk⟩
 self:=self
def xI(K:Ae)(a b:Addr):It:=
 ⟨fun i H=>∃xs ys,SqT K H a xs/\SqT K H b ys/\i<min xs.length ys.length,
  fun i H v H'=>∃p x y,v=.ref p/\H p=none/\H'=upd H p (.tup [x,y])/\(∀xs,SqT K H a xs->xs[i]?=some x)/\∀ys,SqT K H b ys->ys[i]?=some y,
  fun i H=>∃xs ys,SqT K H a xs/\SqT K H b ys/\i=min xs.length ys.length⟩
def dH:(2:Nat)<=sizeLine:=by rw[sizeLine_eq];decide
def JM{P:Program}{w:World}{K:Ae}{bT:List Expr}{k:Nat}{pos:Pos}(N O z TI TO i1 i2:Addr)(hd:TI≠z/\TO≠z/\TI≠TO/\TI≠i1/\TI≠i2/\z≠i1/\z≠i2/\TO≠i1/\TO≠i2/\i1≠i2):Turn P w K (.Tuple bT k pos) (xI K N O) [z,TI,TO,i1,i2] z (fun i h=>IsZip h z TI TO .none/\IsPair h TI (.ref i1) (.ref i2)/\(∃a b,IsPair h TO a b)/\h.IsTupleIter i1 N i/\h.IsTupleIter i2 O i):=by
 obtain⟨d1,d2,d3,d4,d5,d6,d7,d8,d9,Z⟩:=hd;refine Ej (wr:=[z,TO,i1,i2]) (by simp) (fun i h st b hb=>?_) (fun i h h' st c=>?_) (fun b hb=>?_) (fun X hP hw hK hc i aa s σ H I hf st oH=>?_) fun A i s Q E st h=>wpAny_pyIter_zip st.1 h
 ·obtain⟨d,l,⟨a,b',q⟩,⟨o4,r,_,S⟩,⟨o5,C,_,e5⟩⟩:=st
  simp at hb;rcases hb with rfl|rfl|rfl|rfl|rfl
  ·exact⟨_,d,fun v z=>by cases z⟩
  ·exact⟨_,l,fun v z=>by cases z⟩
  ·exact⟨_,q,fun v z=>by cases z⟩
  ·exact⟨_,r,fun v z=>by rw[S] at z;cases z⟩
  ·exact⟨_,C,fun v z=>by rw[e5] at z;cases z⟩
 ·obtain⟨d,l,⟨a,b',q⟩,r,C⟩:=st
  exact⟨c z (by simp) _ d,c TI (by simp) _ l,⟨a,b',c TO (by simp) _ q⟩,r.at fun o e=>c i1 (by simp) o e,C.at fun o e=>c i2 (by simp) o e⟩
 ·simp at hb ⊢
  rcases hb with rfl|rfl|rfl|rfl<;>simp
 ·subst hP hw hK
  have hd:∃xs ys,SqT X.K H N xs/\SqT X.K H O ys:=by
   rcases oH with ⟨xs,ys,a,b,_⟩|⟨xs,ys,a,b,_⟩
   ·exact⟨xs,ys,a,b⟩
   ·exact⟨xs,ys,a,b⟩
  obtain⟨xs,ys,D,F⟩:=hd;obtain⟨us,r1,p1,_⟩:=I.tuple D;obtain⟨ws,r2,p2,_⟩:=I.tuple F;have L:=r1.length;have M:=r2.length;have hh:=I.ok.hd hc;obtain⟨d,l,q,r,C⟩:=st;have f:=fun b hb=>Ei I (hf b hb) D;have T:=fun b hb=>Ei I (hf b hb) F;have AP:Zp.Apart z TI TO i1 i2 [i1,N] [i2,O]:=by
   refine⟨?_,?_,?_,?_,by simp,by simp,?_,?_,d1,d2,d3,d4,d5⟩
   ·simp;exact⟨d6,(f z (by simp)).symm⟩
   ·simp;exact⟨d7,(T z (by simp)).symm⟩
   ·simp;exact⟨d8,(f TO (by simp)).symm⟩
   ·simp;exact⟨d9,(T TO (by simp)).symm⟩
   ·simp;exact⟨Z,(T i1 (by simp)).symm⟩
   ·simp;exact⟨Z.symm,(f i2 (by simp)).symm⟩
  have WZ:=Zp.JK (prog:=X.prog) (w:=X.w) (A:=X.A) (Zp.Eg (A:=X.A.in1) hh i1 N (f i1 (by simp)) us.toArray) (Zp.Eg (A:=X.A.in1) hh i2 O (T i2 (by simp)) ws.toArray) AP;refine⟨_,_,_,_,_,WZ,⟨d,l,q,⟨r,p1⟩,⟨C,p2⟩⟩,fun j h st=>⟨st.1,st.2.1,st.2.2.1,st.2.2.2.1.1,st.2.2.2.2.1⟩,fun g=>?_,fun g=>?_⟩
  ·obtain⟨G,J,U,W,hi⟩:=g
   have e1:=I.tuple_inj U D;have e2:=I.tuple_inj W F;subst e1 e2;refine⟨by simpa[<-L,<-M] using hi,fun vals hp=>?_⟩;obtain⟨x,y,px,py,rfl⟩:=hp;have mj:us[i]?=some x:=by simpa using px
   have Y:ws[i]?=some y:=by simpa using py
   have lx:i<G.length:=ω
   have ly:i<J.length:=ω
   have gx:G[i]?=some G[i]:=by simp[lx]
   have gy:J[i]?=some J[i]:=by simp[ly]
   obtain⟨u,e3,ru⟩:=r1.get gx;obtain⟨u',S,cu⟩:=r2.get gy;rw[mj] at e3;cases e3;rw[Y] at S;cases S;refine⟨[G[i],J[i]],.cons ru (.cons cu .nil),dH,fun p hp=>⟨p,_,_,rfl,hp,rfl,fun zs hz=>?_,fun zs hz=>?_⟩⟩
   ·rw[I.tuple_inj hz D];exact gx
   ·rw[I.tuple_inj hz F];exact gy
  ·obtain⟨G,J,U,W,hi⟩:=g
   have e1:=I.tuple_inj U D;have e2:=I.tuple_inj W F;subst e1 e2
   simpa[<-L,<-M] using hi
def JN(b e:Addr)(xs ys:Array Value):Meets (Builtin.«zip.__new__» ⟨[.type "zip",.ref b,.ref e],[]⟩) (fun _ R s=>s.heap.IsTuple b xs/\s.heap.IsTuple e ys/\
   ∀h',IsZip h' (s⁻¹+4) (s⁻¹+2) (s⁻¹+3) .none->IsPair h' (s⁻¹+2) (.ref s⁻¹) (.ref (s⁻¹+1))->
   IsPair h' (s⁻¹+3) .none .none->h'.IsTupleIter s⁻¹ b 0->h'.IsTupleIter (s⁻¹+1) e 0->
   (∀c o,s.heap.get? c=some o->h'.get? c=some o)->R (.ok (.ret (.ref (s⁻¹+4)))) {s with heap:=h'}):=
 .of_wp fun prog w A R s h=>by
  obtain⟨hp,g,d,tk,os⟩:=s;obtain⟨f,i,h⟩:=h;have p:=sub_zip;have j:Heap.IsTuple (Shared.heap ⟨hp,g,d,tk,os⟩) b xs:=f;have l:Heap.IsTuple (Shared.heap ⟨hp.push {cls:=.type "tuple_iterator",data:=.fields #[.ref b,.int 0 0]},g,d,tk,os⟩) e ys:=Heap.IsTuple.push i _
  wp_walk using wpAny_pyIter_tuple j,wpAny_pyIter_tuple l
  refine⟨_,rfl,?_⟩;dsimp only at h ⊢;have a:∀(h:Heap)(o:Obj),(h.push o).objs.size=h.objs.size+1:=fun h o=>Heap.size_push ..;simp only[a,Nat.add_assoc,Nat.reduceAdd];refine h _ ?_ ?_ ?_ ?_ ?_ fun c o x=>Ad _ (Ad _ (Ad _ (Ad _ (Ad _ x))))
  ·exact Heap.get?_push_at (by simp only[a]) rfl
  ·exact Ad _ (Ad _ (Heap.get?_push_at (by simp only[a]) rfl))
  ·exact Ad _ (Heap.get?_push_at (by simp only[a]) rfl)
  ·exact⟨_,Ad _ (Ad _ (Ad _ (Ad _ (Al _ rfl)))),rfl,rfl⟩
  ·exact⟨_,Ad _ (Ad _ (Ad _ (Heap.get?_push_at (by simp only[a]) rfl))),rfl,rfl⟩
section
variable{X:Cx}{bT:List Expr}{k:Nat}{fc:Pos}
def xS(K:Ae)(ta:TA):TI:=fun σ H R=>ta σ H fun vs H1=>∃a b,vs=[.ref a,.ref b]/\(∃xs,SqT K H1 a xs)/\(∃ys,SqT K H1 b ys)/\R (xI K a b) H1
def JO{a b:Expr}{ta:TA}{p pos:Pos}(J:Gl X "zip")(hm:X.mg "zip"=none)(L:AX "zip"=some (.type "zip"))(M:PA X [a,b] ta)(hs:starEach [a,b] X.env=[(false,eval a X.env),(false,eval b X.env)]:=by rfl)(l:starEach [b] X.env=[(false,eval b X.env)]:=by rfl):PI X (.Tuple bT k fc) (.Call (.Name "zip" p) [a,b] [] pos) (xS X.K ta):=by
 intro aa s σ H R I h;refine Call_ (je I J hm L (PyProof.Rows.callWith_type1 (aL (M pos aa s σ H _ I h) fun us c ⟨vs,H1,I1,o,f⟩=>?_) (by rw[hs,l]) (by rw[l];rfl)));obtain⟨i,j,e,⟨xs,f⟩,⟨ys,A⟩,q⟩:=f;subst e;obtain⟨u,O,rfl,C,D⟩:=vals2 o;cases C;cases D;obtain⟨E,_,p1,_⟩:=I1.tuple f;obtain⟨G,_,p2,_⟩:=I1.tuple A;refine callType_new F.called_zip ξ (F.typeCall_zip_2 _ _) (F.newCall_zip_2 _ _) (fun obj=>F.args_object_init_3 obj _ _) F.entry_zip_new (JN i j E.toArray G.toArray) ⟨p1,p2,fun h' g r v w x y=>?_⟩;refine⟨⟨_,g,rfl⟩,wpAny_pyIter_zip g ?_⟩;have N:Inv X aa σ H1 {c with heap:=h'}:=I1.kept (t':=c.toks) y;refine⟨c⁻¹+4,[c⁻¹+4,c⁻¹+2,c⁻¹+3,c⁻¹,c⁻¹+1],_,_,H1,rfl,N,JM i j _ _ _ _ _ (by refine⟨?_,?_,?_,?_,?_,?_,?_,?_,?_,?_⟩<;>(intro z;have P:(_:Nat)=_:=z;omega)),⟨g,r,⟨_,_,v⟩,w,x⟩,fun b hb=>?_,q⟩;have d:c⁻¹<=b:=by
  simp only[List.mem_cons,List.not_mem_nil,or_false] at hb;rcases hb with rfl|rfl|rfl|rfl|rfl
  ·exact Nat.le_add_right _ _
  ·exact Nat.le_add_right _ _
  ·exact Nat.le_add_right _ _
  ·exact Ag _
  ·exact Nat.le_add_right _ _
 exact I1.fpOk d (I1.hok.fresh d)
end
def Ek(K:Ae)(a:Addr):It:=
 ⟨fun i H=>∃xs,SqL K H a xs/\i<xs.length,
  fun i H v H'=>∃p x,v=.ref p/\H p=none/\H'=upd H p (.tup [.int i,x])/\∀xs,SqL K H a xs->xs[i]?=some x,
  fun i H=>∃xs,SqL K H a xs/\i=xs.length⟩
def JP{P:Program}{w:World}{K:Ae}{bT:List Expr}{k:Nat}{pos:Pos}(a e it:Addr)(hd:e≠it):Turn P w K (.Tuple bT k pos) (Ek K a) [e,it] e (fun i h=>(∃d,IsEnum h e it i d)/\h.IsListIter it a i):=by
 refine Ej (wr:=[e,it]) (by simp) (fun i h st b hb=>?_) (fun i h h' st G=>?_) (fun b hb=>hb) (fun X M hw N hc i aa s σ H I hf st O=>?_) fun A i s Q E st h=>?_
 ·obtain⟨⟨d,c⟩,⟨o4,l,_,S⟩⟩:=st
  simp at hb;rcases hb with rfl|rfl
  ·exact⟨_,c,fun v z=>by cases z⟩
  ·exact⟨_,l,fun v z=>by rw[S] at z;cases z⟩
 ·obtain⟨⟨d,c⟩,l⟩:=st
  exact⟨⟨d,G e (by simp) _ c⟩,l.at fun o q=>G it (by simp) o q⟩
 ·subst M hw N
  have F:∃xs,SqL X.K H a xs:=by
   rcases O with ⟨xs,q,_⟩|⟨xs,q,_⟩
   ·exact⟨xs,q⟩
   ·exact⟨xs,q⟩
  obtain⟨xs,r⟩:=F;obtain⟨us,J,p1,_⟩:=I.list r;have y:=J.length;have W:=I.ok.hd hc;obtain⟨c,l⟩:=st;have f:=fun b hb=>JL I (hf b hb) r;have Z:=WalksT.enumerateD (prog:=X.prog) (w:=X.w) (A:=X.A) (Draws.list (A:=X.A.in1) W it a (f it (by simp)) us.toArray) e hd (by simp;exact⟨hd,(f e (by simp)).symm⟩) (by simp);refine⟨_,_,_,_,_,Z,⟨c,l,p1.isList⟩,fun j h st=>⟨st.1,st.2.1⟩,fun g=>?_,fun g=>?_⟩
  ·obtain⟨C,D,hi⟩:=g
   have e1:=I.list_inj D r;subst e1;refine⟨by simpa[<-y] using hi,fun vals hp=>?_⟩;obtain⟨t,x,T,rfl⟩:=hp;have Y:us[i]?=some x:=by simpa using T
   have L:C[i]?=some C[i]:=by simp[hi]
   obtain⟨u,e3,U⟩:=J.get L;rw[Y] at e3;cases e3;refine⟨[.int i,C[i]],.cons ⟨_,rfl⟩ (.cons U .nil),dH,fun p hp=>⟨p,_,rfl,hp,rfl,fun zs hz=>?_⟩⟩;rw[I.list_inj hz r];exact L
  ·obtain⟨C,D,hi⟩:=g
   have e1:=I.list_inj D r;subst e1
   simpa[<-y] using hi
 ·obtain⟨⟨d,c⟩,_⟩:=st
  exact wpAny_pyIter_enum c h
section
variable{X:Cx}{bT:List Expr}{k:Nat}{fc:Pos}
def JQ(K:Ae)(ta:TA):TI:=fun σ H R=>ta σ H fun vs H1=>∃a,vs=[.ref a]/\(∃xs,SqL K H1 a xs)/\R (Ek K a) H1
def JR{a:Expr}{ta:TA}{p pos:Pos}(v:Gl X "enumerate")(hm:X.mg "enumerate"=none)(w:AX "enumerate"=some (.type "enumerate"))(x:PA X [a] ta)(hs:starEach [a] X.env=[(false,eval a X.env)]:=by rfl):PI X (.Tuple bT k fc) (.Call (.Name "enumerate" p) [a] [] pos) (JQ X.K ta):=by
 intro aa s σ H R I h;refine Call_ (je I v hm w (PyProof.Rows.callWith_type1 (aL (x pos aa s σ H _ I h) fun us c ⟨vs,H1,I1,i,f⟩=>?_) hs rfl));obtain⟨o,e,⟨xs,f⟩,q⟩:=f;subst e;obtain⟨u,rfl,r⟩:=vals1 i;cases r;obtain⟨C,_,p1,_⟩:=I1.list f;refine call_enumerate_list p1.isList fun h' g j A l=>?_;refine wpAny_pyIter_enum g ?_;have y:Inv X aa σ H1 {c with heap:=h'}:=I1.kept (t':=c.toks) l;refine⟨c⁻¹+1,[c⁻¹+1,c⁻¹],_,_,H1,rfl,y,JP o _ _ (by intro z;have D:(_:Nat)=_:=z;omega),⟨⟨_,g⟩,j⟩,fun b hb=>?_,q⟩;have d:c⁻¹<=b:=by
  simp only[List.mem_cons,List.not_mem_nil,or_false] at hb;rcases hb with rfl|rfl
  ·exact Nat.le_add_right _ _
  ·exact Ag _
 exact I1.fpOk d (I1.hok.fresh d)
def dI:∀{bs:List Bool}{us:List Value},Vals (bs.map V.bl) us->LSm.BoolsAre us bs
 |[],_,.nil=>.nil
 |b::bs,_,.cons r t=>by cases r;exact .cons b (dI t)
def jX(hc:X.calm=true):zU X (.builtin "all") (fun xs H Q=>∃(l:Addr)(bs:List Bool),xs=[.ref l]/\SqL X.K H l (bs.map V.bl)/\Q (.bl (bs.all id)) H):=by
 intro aa s σ H xs us Q I r h;obtain⟨l,bs,rfl,hq,q⟩:=h;obtain⟨u,rfl,j⟩:=vals1 r;cases j;obtain⟨a,o,p1,_⟩:=I.list hq;have p:=I.ok.hd hc;have c:=p1.isList;have hb:=dI o;have d:l<s⁻¹:=by obtain⟨_,e,_⟩:=c;exact Ak e
 refine call_all_walk (wpAny_pyIter_list c ?_);refine⟨s⁻¹,[s⁻¹,l],[s⁻¹],a.toArray.size,_,_,fun i=>(bs[i]?).getD true,rfl,Walks.list (A:=X.A.in1) p _ l (Ao d) a.toArray,
  ⟨⟨_,Al _ rfl,rfl,rfl⟩,c.push _⟩,fun i v s' w x g f=>?_,fun h' tk hk=>?_⟩
 ·obtain⟨b,e,rfl⟩:=hb.get i v (by simpa using g)
  simp only[e,Option.getD_some] at f;exact wpAny_truthy_bool f
 ·have e:((Ba a.toArray.size).all fun i=>(bs[i]?).getD true)=bs.all id:=by
   rw[Aj,hb.length];exact LSm.range_all bs
  rw[e];exact⟨.bl _,H,I.kept (LSm.kept_iter hk),rfl,q⟩
end
section
variable{K:Ae}{a:Addr}{xs:List V}{g:TG}{tc:TT}{te:TE}{σ:St}{H1:Hp}{Q:VK}{D:Addr}
def xT(n:Nat)(a:Nat->St->List V->Hp->Prop)(i m:Nat)(σ:St)(H:Hp):Prop:=m=n-i/\i<=n/\∃ys,ys.length<=i/\a i σ ys H
def dL(n:Nat)(d:Nat->St->List V->Hp->Prop)(D:Addr)(i:Nat)(c:St):VK:=fun y b=>∃ys a,b D=some (.lst ys)/\ys.length<sizeLine/\a<n-i/\xT n d (i+1) a c (upd b D (.lst (ys++[y])))
def cv(n:Nat)(c:Nat->St->List V->Hp->Prop)(i:Nat)(b:St)(d:Hp):Prop:=∃a,a<n-i/\xT n c (i+1) a b d
def a9{n:Nat}{c:Nat->St->List V->Hp->Prop}{i:Nat}{b:St}{ys:List V}{y:V}{a:Hp}(d:n<=sizeLine)(hi:i<n)(f:ys.length<=i)(e:a D=some (.lst ys))(p:c (i+1) b (ys++[y]) (upd a D (.lst (ys++[y])))):dL n c D i b y a:=
 ⟨ys,n-(i+1),e,ω,ω,rfl,hi,ys++[y],by simp;omega,p⟩
def cS{n:Nat}{b:Nat->St->List V->Hp->Prop}{i:Nat}{a:St}{ys:List V}{c:Hp}(hi:i<n)(d:ys.length<=i)(p:b (i+1) a ys c):cv n b i a c:=
 ⟨n-(i+1),ω,rfl,hi,ys,ω,p⟩
def jr{J:It}(n:Nat)(a:Nat->St->List V->Hp->Prop)(l:a 0 σ [] (upd H1 D (.lst [])))(o:∀σ ys H,a n σ ys H->J.stop n H)(q:∀i σ ys H,i<n->a i σ ys H->J.go i H)(hs:∀i σ ys H x H',i<n->ys.length<=i->a i σ ys H->J.yld i H x H'->g x σ H' fun d r=>tc d r fun b h=>if b=true then te d h (dL n a D i d) else cv n a i d h)(hd:∀σ ys H,a n σ ys H->Q (.ref D) H):cG J g tc te σ H1 D Q:=by
 refine⟨xT n a,⟨n,by simp,AK _,[],Ag _,l⟩,?_⟩;rintro i m f H2 ⟨rfl,hi,ys,j,p⟩
 by_cases c:i<n
 ·exact .inr ⟨q i f ys H2 c p,fun x s y=>hs i f ys H2 x s c j p y⟩
 ·have e:i=n:=ω
  subst e;exact .inl ⟨o f ys H2 p,hd f ys H2 p⟩
def zG(c:Nat->St->List V->Hp->Prop)(j:c 0 σ [] (upd H1 D (.lst [])))(f:∀i σ ys H,c i σ ys H->SqL K H a xs)(hs:∀i σ ys H x,xs[i]?=some x->i<xs.length->ys.length<=i->c i σ ys H->g x σ H fun d l=>tc d l fun b h=>if b=true then te d h (dL xs.length c D i d) else cv xs.length c i d h)(hd:∀σ ys H,c xs.length σ ys H->Q (.ref D) H):cG (dv K a) g tc te σ H1 D Q:=by
 refine jr xs.length c j (fun σ ys H p=>⟨xs,f _ _ _ _ p,Ag _⟩) (fun i σ ys H hi p=>⟨xs,xs[i],f _ _ _ _ p,by simp[hi]⟩) (fun i σ ys H x H' hi hy p y=>?_) hd;obtain⟨e,y⟩:=y;subst e;exact hs i σ ys _ x (y xs (f _ _ _ _ p)) hi hy p
def El(c:Nat->St->List V->Hp->Prop)(j:c 0 σ [] (upd H1 D (.lst [])))(f:∀i σ ys H,c i σ ys H->SqT K H a xs)(hs:∀i σ ys H x,xs[i]?=some x->i<xs.length->ys.length<=i->c i σ ys H->g x σ H fun d l=>tc d l fun b h=>if b=true then te d h (dL xs.length c D i d) else cv xs.length c i d h)(hd:∀σ ys H,c xs.length σ ys H->Q (.ref D) H):cG (jf K a) g tc te σ H1 D Q:=by
 refine jr xs.length c j (fun σ ys H p=>⟨xs,f _ _ _ _ p,Ag _⟩) (fun i σ ys H hi p=>⟨xs,xs[i],f _ _ _ _ p,by simp[hi]⟩) (fun i σ ys H x H' hi hy p y=>?_) hd;obtain⟨e,y⟩:=y;subst e;exact hs i σ ys _ x (y xs (f _ _ _ _ p)) hi hy p
def JS{lo:Int}{n:Nat}(a:Nat->St->List V->Hp->Prop)(f:a 0 σ [] (upd H1 D (.lst [])))(hs:∀i σ ys H,i<n->ys.length<=i->a i σ ys H->g (.int (lo+i)) σ H fun c h=>tc c h fun b d=>if b=true then te c d (dL n a D i c) else cv n a i c d)(hd:∀σ ys H,a n σ ys H->Q (.ref D) H):cG (jg lo n) g tc te σ H1 D Q:=by
 refine jr n a f (fun σ ys H p=>Ag _) (fun i σ ys H hi p=>hi) (fun i σ ys H x H' hi hy p y=>?_) hd;obtain⟨e,y⟩:=y;subst e y;exact hs i σ ys _ hi hy p
def JT{e f:Addr}{ys:List V}(a:Nat->St->List V->Hp->Prop)(r:a 0 σ [] (upd H1 D (.lst [])))(c:∀i σ zs H,a i σ zs H->SqT K H e xs/\SqT K H f ys)(hs:∀i σ zs H p x y,xs[i]?=some x->ys[i]?=some y->i<min xs.length ys.length->zs.length<=i->a i σ zs H->H p=none->g (.ref p) σ (upd H p (.tup [x,y])) fun d s=>tc d s fun b h=>if b=true then te d h (dL (min xs.length ys.length) a D i d) else cv (min xs.length ys.length) a i d h)(hd:∀σ zs H,a (min xs.length ys.length) σ zs H->Q (.ref D) H):cG (xI K e f) g tc te σ H1 D Q:=by
 refine jr (min xs.length ys.length) a r (fun σ zs H p=>⟨xs,ys,(c _ _ _ _ p).1,(c _ _ _ _ p).2,rfl⟩) (fun i σ zs H hi p=>⟨xs,ys,(c _ _ _ _ p).1,(c _ _ _ _ p).2,hi⟩) (fun i σ zs H v H' hi hy p y=>?_) hd;obtain⟨j,x,l,rfl,hp,rfl,o,q⟩:=y;exact hs i σ zs H j x l (o xs (c _ _ _ _ p).1) (q ys (c _ _ _ _ p).2) hi hy p hp
end
end L2
end
section
namespace Dk
open PySem PySem.Spec PyProof.Rows
def IsD(h:Heap)(d:Addr)(es:Array DictEntry)(ep:Nat):Prop:=∃o,h.get? d=some o/\o.ExactDict/\o.data=.dict es ep
def IsD.at{h h':Heap}{d:Addr}{es:Array DictEntry}{ep:Nat}(x:IsD h d es ep)(k:∀o,h.get? d=some o->h'.get? d=some o):IsD h' d es ep:=let ⟨o,ho,r⟩:=x;⟨o,k o ho,r⟩
def IsD.lt{h:Heap}{d:Addr}{es:Array DictEntry}{ep:Nat}(x:IsD h d es ep):d<h.objs.size:=let ⟨_,ho,_⟩:=x;Ak ho
section
variable{prog:Program}{w:World}{A:Around}{E:Ω}{s:Shared}{it d:Addr}{i ep:Nat}{es:Array DictEntry}
def IsD.typeIs(x:IsD s.heap d es ep):s.TypeIs (.ref d) "dict":=let ⟨o,ho,r⟩:=x;⟨o,ho,r.1.1⟩
def iter{Q:Ω}(hd:(d==A0)=false)(hm:IsD s.heap d es ep)(c:Q (.ref s⁻¹) {s with heap:=s.heap.push {cls:=.type "dict_keyiterator",data:=.fields #[.ref d,.int 0 0,.int es.size 0,.int ep 0]}}):wpAny (model prog w) A (pyIter (.ref d)) Q E s:=by
 have hT:=hm.typeIs;obtain⟨o,a,hc,b⟩:=id hm;refine wpAny_pyIter_slot hT PySem.F.slot_dict_iter (AC PySem.F.slot_dict_iter hT PySem.F.entry_dict_iter ?_ (PySem.F.args_dict_iter_1 _));unfold Builtin.«dict.__iter__»;refine Aa ?_;unfold Builtin.Dict.dictSlotNone;refine Aa (wpAny_notOrdered_dict hT ?_);show wpAny _ _ (pure (Value.ref d)) _ _ s;refine Ac ?_;show wpAny _ _ (Builtin.Dict.showsAll d >>= _) _ _ s;unfold Builtin.Dict.showsAll;rw[if_neg (by rw[hd];exact Aq)];refine Aa (Ac ?_);refine Aa (AD a b ?_);refine Aa (wpAny_dictEpoch a b ?_);refine Aa (AF (Ac ⟨_,rfl,"dict_keyiterator",_,⟨_,Al _ rfl,rfl⟩,PySem.F.slot_dict_keyiterator_next.lookup,?_⟩))
 simpa[rawInt] using c
def item{Q:Option Value->Shared->Prop}(a:s.heap.IsKeyIter it d i es.size ep)(hm:IsD s.heap d es ep)(hx:i<es.size)(h:∀h',h'.IsKeyIter it d (i+1) es.size ep->AQ it s.heap h'->Q (some es[i].key) {s with heap:=h'}):wpAny (model prog w) A (pyNext (.ref it)) Q E s:=by
 obtain⟨o,b,hc,hd⟩:=id a;obtain⟨j,c,l,e⟩:=id hm;unfold pyNext;refine Aa (wpAny_attempt (AS (name:=Bm "__next__") a.typeIs PySem.F.slot_dict_keyiterator_next
  (AC PySem.F.slot_dict_keyiterator_next a.typeIs PySem.F.entry_dict_keyiterator_next ?_ (PySem.F.args_dict_keyiterator_next_1 _))))
 refine Aa (Ac ?_);refine Aa ?_;refine Aa ?_
 first|refine Aa (wpAny_typeNameOfWhole_keyiter a.typeIs (Ac ?_))|refine Aa (wpAny_typeNameOf_keyiter a.typeIs (Ac ?_))
 refine Aa (wpAny_fieldsOf b hd ?_);have g:Builtin.Dict_items.ownsTuple "dict_keyiterator"=false:=ξ
 simp only[g,Ah,if_false];show wpAny _ _ (if(Value.ref d==Value.none)=true then _ else _) _ _ s;rw[if_neg (show ¬((Value.ref d==Value.none)=true) from Aq)];refine Aa (Ac ?_);refine Aa (AD c e ?_);rw[if_neg (by simp)];refine Aa (Ac ?_);refine Aa (wpAny_dictEpoch c e ?_);rw[if_neg (by simp)];refine Ac ?_;simp only[show ¬((i:Int)<0) from ω,if_false,Bg,Array.getElem?_eq_getElem hx];refine Aa ?_
 first|refine Aa (wpAny_typeNameOfWhole_keyiter a.typeIs (Ac ?_))|refine Aa (wpAny_typeNameOf_keyiter a.typeIs (Ac ?_))
 refine Aa (wpAny_isOneOf_keyiter a.typeIs ?_);show wpAny _ _ (setField (.ref it) 1 (rawInt ((i:Int)+1)) >>= _) _ _ s;refine Aa (Bk b hd (by simp) ?_);have f:(s.heap.update it (Obj.mapFields (·.setIfInBounds 1 (rawInt ((i:Int)+1))))).IsKeyIter it d (i+1) es.size ep:=
  ⟨_,A5 _ b (Obj.isFreed_of_fields (A1 hd _)),(Obj.cls_mapFields ..).trans hc,by rw[A1 hd];simp[rawInt]⟩
 refine Aa (AA ?_);refine Aa (wpAny_isOneOf_keyiter (s:={s with heap:=s.heap.update it (Obj.mapFields (·.setIfInBounds 1 (rawInt ((i:Int)+1))))}) f.typeIs ?_);show wpAny _ _ (pure es[i].key) _ _ _;exact Ac (Ac ⟨_,rfl,Ac (h _ f (AL ..))⟩)
def done{Q:Option Value->Shared->Prop}(i:A.handled=none)(c:s.heap.IsKeyIter it d es.size es.size ep)(hm:IsD s.heap d es ep)(j:∀h',Heap.ExtBut it s.heap h'->Q none {s with heap:=h'}):wpAny (model prog w) A (pyNext (.ref it)) Q E s:=by
 obtain⟨o,e,hc,hd⟩:=id c;obtain⟨l,f,p,g⟩:=id hm;unfold pyNext;refine Aa (wpAny_attempt (AS (name:=Bm "__next__") c.typeIs PySem.F.slot_dict_keyiterator_next
  (AC PySem.F.slot_dict_keyiterator_next c.typeIs PySem.F.entry_dict_keyiterator_next ?_ (PySem.F.args_dict_keyiterator_next_1 _))))
 refine Aa (Ac ?_);refine Aa ?_;refine Aa ?_
 first|refine Aa (wpAny_typeNameOfWhole_keyiter c.typeIs (Ac ?_))|refine Aa (wpAny_typeNameOf_keyiter c.typeIs (Ac ?_))
 refine Aa (wpAny_fieldsOf e hd ?_);have h:Builtin.Dict_items.ownsTuple "dict_keyiterator"=false:=ξ
 simp only[h,Ah,if_false];show wpAny _ _ (if(Value.ref d==Value.none)=true then _ else _) _ _ s;rw[if_neg (show ¬((Value.ref d==Value.none)=true) from Aq)];refine Aa (Ac ?_);refine Aa (AD f g ?_);rw[if_neg (by simp)];refine Aa (Ac ?_);refine Aa (wpAny_dictEpoch f g ?_);rw[if_neg (by simp)];refine Ac ?_;simp only[show ¬((es.size:Int)<0) from ω,if_false,Bg,Array.getElem?_eq_none (Ag es.size)];refine Aa ?_
 first|refine Aa (wpAny_typeNameOfWhole_keyiter c.typeIs (Ac ?_))|refine Aa (wpAny_typeNameOf_keyiter c.typeIs (Ac ?_))
 show wpAny _ _ (setField (.ref it) 0 .none >>= _) _ _ s;refine Aa (Bk e hd (by simp) ?_);show wpAny _ _ (newExc (.type "StopIteration") [] >>= _) _ _ _;refine Aa ?_;simp only[newExc,newTuple];refine Aa (AF ?_ (by size_fits));refine Aa (m:=firstArgMember _ _) (Bi (a:=Value.none) (by first|rfl|(simp only[firstArgMember];rfl)) ?_);refine AF ?_ (by size_fits);simp only[raiseNew];refine Aa (wpAny_handled ?_);rw[show A.in1.handled=none from i];refine Aa (Ac (wpAny_throw ?_));refine Aa (A8 (T:="StopIteration") (b:=true) ⟨_,Al _ rfl,rfl⟩ isSubtype_stop ?_);exact Ac (j _ (((AL ..).extBut.push _).push _))
def walks(l:A.handled=none)(I d:Addr)(c:d≠I)(es:Array DictEntry)(ep:Nat):Walks prog w A I [I,d] [I] es.size (fun i v=>∃e,es[i]?=some e/\v=e.key) (fun i h=>h.IsKeyIter I d i es.size ep/\IsD h d es ep) where
 sub:=fun b hb=>by simp at hb ⊢;exact .inl hb
 frame:=fun i h h' st k=>⟨let ⟨o,ho,r⟩:=st.1;⟨o,k I (by simp) o ho,r⟩,st.2.at fun o e=>k d (by simp) o e⟩
 item:=fun i s Q E hi st a=>item st.1 st.2 hi fun h' g f=>a _ h' s.toks ⟨es[i],by simp[hi],rfl⟩ ⟨g,st.2.at fun o e=>(f.2 d c).trans e⟩ fun b o hb e=>(f.2 b (fun z=>hb (by simp[z]))).trans e
 done:=fun s Q E st a=>done l st.1 st.2 fun h' j=>a h' s.toks fun b o hb e=>j b o (fun z=>hb (by simp[z])) e
 self:=fun i s Q E st a=>wpAny_pyIter_keyiter st.1 a
def src(lo:(d==A0)=false):PySem.W.KdlSrc prog w "dict" d d es.size (fun i v=>∃e,es[i]?=some e/\v=e.key) (fun h=>IsD h d es ep) where
 type:=fun _ hm=>hm.typeIs
 there:=fun _ hm=>⟨hm.lt,hm.lt⟩
 keep:=fun _ _ hm hk=>hm.at fun o e=>hk d (.inl rfl) o e
 notList:=ξ
 notTuple:=ξ
 hint:=fun _ _ _ _ hm hq=>PySem.W.kdl_hint_dict hm.typeIs hq
 iter:=fun _ s a hm=>⟨_,_,(fun _ _ hq=>iter lo hm hq),walks a _ d (Ao hm.lt) es ep,⟨⟨_,Al _ rfl,rfl,rfl⟩,hm.at fun o e=>Ad _ e⟩⟩
end
end Dk
namespace L2
open PySem PySem.Spec PyProof.Rows
section
variable{X:Cx}
def Em{P:Program}{w:World}{k:Key}{u:Value}(h:(zt P w).is k u=true):RelV (kV k) u:=by
 rcases az h with ⟨i,t,rfl,rfl⟩|⟨x,t,rfl,rfl⟩
 ·exact⟨t,rfl⟩
 ·exact⟨t,rfl⟩
def En(hc:X.calm=true):zU X (.type "list") (fun xs H Q=>∃a kvs,xs=[.ref a]/\H a=some (.dT kvs)/\
  ∀(bs:List Addr),Paired (fun(p:List Key×V) b=>H b=some (.tup (p.1.map kV))) kvs bs->∀l,H l=none->Q (.ref l) (upd H l (.lst (bs.map V.ref)))):=by
 intro aa s σ H xs us Q I r h;obtain⟨a,kvs,rfl,hq,q⟩:=h;obtain⟨u,rfl,v⟩:=vals1 r;cases v;obtain⟨z,y,ys,c,o,es,ep,h1,h2,x,d,F⟩:=(show zB X.prog X.w H s.heap a (.dT kvs) from I.hok a _ hq);have f:es.size=kvs.length:=by
  have:=congrArg List.length d;rw[Ab,<-A2 c] at this
  simpa using this
 refine PySem.W.kdl_call (Dk.src (ep:=ep) (es:=es) y) (I.ok.hd hc) ⟨o,h1,h2,x⟩ (by rw[f];exact z) fun h' tk acc g j e it=>?_;obtain⟨n1,n2⟩:=it;have C:Paired (fun(p:List Key×V) b=>H b=some (.tup (p.1.map kV))) kvs (ys.map (·.2.1)):=by
  have:∀{l:List (List Key×V)}{m:List (List Key×Addr×Value)},KT H l m->Paired (fun(p:List Key×V) b=>H b=some (.tup (p.1.map kV))) l (m.map (·.2.1)):=by
   intro l m q
   induction q with
   |nil=>exact .nil
   |cons hq t ih=>exact .cons hq.2.1 ih
  exact this c
 have D:acc.toList=(ys.map (·.2.1)).map Value.ref:=by
  apply List.ext_getElem?;intro i;have hy:ys.length=acc.size:=by rw[n1,f];exact(A2 c).symm
  by_cases hi:i<acc.size
  ·obtain⟨A,g1,g2⟩:=n2 i acc[i] (by simp[hi])
   have g3:es.toList[i]?=some A:=by simpa using g1
   rw[d,Ai] at g3;have g4:ys[i]?=some ys[i]:=by simp[hy,hi]
   rw[g4] at g3;simp only[A6,Bd] at g3;simp only[Ai,g4,A6,AE,Array.getElem?_eq_getElem hi];rw[g2,<-g3]
   rfl
  ·have g1:acc.toList.length<=i:=by simp;omega
   have g2:((ys.map (·.2.1)).map Value.ref).length<=i:=by simp[hy];omega
   rw[List.getElem?_eq_none g1,List.getElem?_eq_none g2]
 have E:Vals ((ys.map (·.2.1)).map V.ref) acc.toList:=by
  rw[D];generalize ys.map (·.2.1)=bs
  induction bs with
  |nil=>exact .nil
  |cons b bs ih=>exact .cons rfl ih
 refine⟨.ref s⁻¹,_,I.laid j (Ag _) (show zB X.prog X.w _ h' _ (.lst ((ys.map (·.2.1)).map V.ref)) from⟨?_,acc.toList,g,E,by simpa using e⟩),rfl,q _ C _ (I.hok.fresh (Ag _))⟩;simp only[Ab];rw[<-A2 c];exact z
def x8(hc:X.calm=true):zU X (.type "list") (fun xs H Q=>∃a kvs,xs=[.ref a]/\H a=some (.dK kvs)/\∀l,H l=none->Q (.ref l) (upd H l (.lst (kvs.map fun kv=>kV kv.1)))):=by
 intro aa s σ H xs us Q I r h;obtain⟨a,kvs,rfl,hq,q⟩:=h;obtain⟨u,rfl,f⟩:=vals1 r;cases f;obtain⟨z,y,vs,b,dd⟩:=wR I.hok hq;obtain⟨ep,dd⟩:=dd.dictAt;have g:=b.length;refine PySem.W.kdl_call (PySem.W.kdl_dict (knd:=zt X.prog X.w) (kvs:=vs) (ep:=ep) y) (I.ok.hd hc) dd (by rw[<-g];exact z) fun h' tk acc c d e it=>?_;obtain⟨n1,n2⟩:=it;have j:Vals (kvs.map fun kv=>kV kv.1) acc.toList:=by
  have key:∀{l:List (Key×V)}{m:List (Key×Value)}{as:List Value},KV l m->as.length=m.length->(∀(i:Nat) v,as[i]?=some v->∃k x,m[i]?=some (k,x)/\(zt X.prog X.w).is k v=true)->Vals (l.map fun kv=>kV kv.1) as:=by
   intro l m as q
   induction q generalizing as with
   |nil=>intro h1 _;cases as with
    |nil=>exact .nil
    |cons _ _=>simp at h1
   |@cons p q' ps qs hq t ih=>
    intro h1 h2;cases as with
    |nil=>simp at h1
    |cons v as=>
     obtain⟨k,x,g1,g2⟩:=h2 0 v rfl;simp only[List.getElem?_cons_zero,Bd] at g1;refine .cons ?_ (ih (by simpa using h1) fun i v e=>by simpa using h2 (i+1) v (by simpa using e));have:p.1=k:=by rw[hq.1,g1]
     show RelV (kV p.1) v;rw[this];exact Em g2
  exact key b (by simpa using n1) fun i v e=>n2 i v (by simpa using e)
 refine⟨.ref s⁻¹,_,I.laid d (Ag _) (show zB X.prog X.w _ h' _ (.lst (kvs.map fun kv=>kV kv.1)) from⟨?_,acc.toList,c,j,by simpa using e⟩),rfl,q _ (I.hok.fresh (Ag _))⟩
 simpa using z
end
end L2
end
section
namespace L2
open PySem PySem.Spec PyProof.Rows
def Tp(H:Hp)(a:Addr)(ps:List Int):Prop:=H a=some (.tup (ps.map V.int))
abbrev Tps(H:Hp)(as:List Addr)(pss:Ξ):Prop:=Paired (fun a ps=>Tp H a ps) as pss
def Same.tp{H H':Hp}{a:Addr}{ps:List Int}(e:Same H H')(h:Tp H a ps):Tp H' a ps:=e _ _ h
def Same.tps{H H':Hp}{as:List Addr}{pss:Ξ}(e:Same H H')(h:Tps H as pss):Tps H' as pss:=Paired.mapP h fun _ _ q=>e.tp q
def Same.new{H:Hp}{a:Addr}{o:HO}(h:H a=none):Same H (upd H a o):=fun b u e=>by rw[zl (zg e h)];exact e
def Same.then{H H1:Hp}{a:Addr}{o:HO}(e:Same H H1)(h:H a=none):Same H (upd H1 a o):=fun b u q=>by rw[zl (zg q h)];exact e b u q
def Tps.length{H:Hp}{as:List Addr}{pss:Ξ}(h:Tps H as pss):as.length=pss.length:=A2 h
def Tps.get{H:Hp}:∀{as:List Addr}{pss:Ξ}{i:Nat}{a:Addr},Tps H as pss->as[i]?=some a->∃ps,pss[i]?=some ps/\Tp H a ps
 |_,_,_,_,.nil,e=>by simp at e
 |_,_,0,_,.cons r _,e=>by simp at e;subst e;exact⟨_,rfl,r⟩
 |_,_,i+1,a,.cons _ t,e=>by
  obtain⟨u,h1,h2⟩:=Tps.get (i:=i) (a:=a) t (by simpa using e);exact⟨u,by simpa using h1,h2⟩
def Tps.snoc{H:Hp}{as:List Addr}{pss:Ξ}{a:Addr}{ps:List Int}(h:Tps H as pss)(q:Tp H a ps):Tps H (as++[a]) (pss++[ps]):=by
 induction h with
 |nil=>exact .cons q .nil
 |cons r t ih=>exact .cons r ih
def Tps.append{H:Hp}{as bs:List Addr}{pss af:Ξ}(h:Tps H as pss)(q:Tps H bs af):Tps H (as++bs) (pss++af):=by
 induction h with
 |nil=>exact q
 |cons r t ih=>exact .cons r ih
def Tps.take{H:Hp}:∀{as:List Addr}{pss:Ξ}(n:Nat),Tps H as pss->Tps H (as.take n) (pss.take n)
 |_,_,0,_=>.nil
 |_,_,_+1,.nil=>.nil
 |_,_,n+1,.cons r t=>.cons r (Tps.take n t)
def Tps.drop{H:Hp}:∀{as:List Addr}{pss:Ξ}(n:Nat),Tps H as pss->Tps H (as.drop n) (pss.drop n)
 |_,_,0,r=>r
 |_,_,_+1,.nil=>.nil
 |_,_,n+1,.cons _ t=>Tps.drop n t
def aT:∀{as:List Addr}{us:List Value},Vals (as.map V.ref) us->us=as.map Value.ref
 |[],_,.nil=>rfl
 |a::as,_,.cons r t=>by cases r;rw[aT t];rfl
def x9{b:Type}(f:b->Addr):∀l:List b,Vals (l.map fun q=>V.ref (f q)) (l.map fun q=>Value.ref (f q))
 |[]=>.nil
 |a::l=>.cons rfl (x9 f l)
section
variable{X:Cx}
def Eo{prog:Program}{w:World}{h:Heap}{c:Addr}{cs:List Value}{a:List Int}(hc:IsTup h c cs.toArray)(hi:IntsAre cs a):AI (zt prog w) h (a.map Sum.inl) c:=by
 obtain⟨o,e,b,k,d⟩:=hc;refine⟨o,cs.toArray,k,e,b,d,?_⟩;have:∀{cs:List Value}{a:List Int},IntsAre cs a->ItemsAre (zt prog w) (a.map Sum.inl) cs:=by
  intro cs a hi
  induction hi with
  |nil=>exact .nil
  |cons n t h ih=>exact .cons (vl prog w n t) ih
 simpa using this hi
def hX{ps a:List Int}:(ps.map Sum.inl:List Key)=a.map Sum.inl↔ps=a:=
 ⟨fun z=>(List.map_inj_right (f:=(Sum.inl:Int->Key)) (fun x y h=>Sum.inl.inj h)).mp z,fun z=>by rw[z]⟩
def JU{aa:Ψ}{σ:St}{H:Hp}{s:Shared}{A:Around}{a b:Addr}{ps c:List Int}(I:Inv X aa σ H s)(f:Tp H a ps)(hb:Tp H b c)(hu:A.units<cLine):SeqAt.EqAt A s (.ref a) (.ref b) (decide (ps=c)):=by
 intro prog w E Q h;obtain⟨g,d,p1,_⟩:=I.tuple (SqT.of f);obtain⟨i,e,p2,_⟩:=I.tuple (SqT.of hb);refine wpAny_eqBool_tuple (knd:=zt prog w) hu (Eo p1 (intsAre_of d)) (Eo p2 (intsAre_of e)) ?_;rw[show decide ((ps.map Sum.inl:List Key)=c.map Sum.inl)=decide (ps=c) from by simp only[hX]];exact h
def Ep:R2:=fun x y H Q=>∃a b xs ys,x=.ref a/\y=.ref b/\H a=some (.tup xs)/\H b=some (.tup ys)/\xs.length+ys.length<=sizeLine/\∀p H',Same H H'->H' p=some (.tup (xs++ys))->Q (.ref p) H'
def Er:bU X (binaryOp .Add) Ep:=by
 intro aa s σ H x y v u Q I j l h;obtain⟨a,b,xs,ys,rfl,rfl,e,hb,hz,q⟩:=h;cases j;cases l;obtain⟨C,c,p1,_⟩:=I.tuple (SqT.of e);obtain⟨p,d,p2,_⟩:=I.tuple (SqT.of hb)
 by_cases hx:xs=[]
 ·subst hx
  have e1:=c.nil_iff.mpr rfl;subst e1;obtain⟨⟨cls,dd,data,r⟩,f,hc,n,hd⟩:=id p1;obtain⟨⟨D,w,data2,A⟩,dl,g,n2,i⟩:=id p2;simp only at hc hd g i;subst hc hd g i;exact concat_meets ⟨_,f,rfl⟩ ⟨_,dl,rfl⟩ noFill_tuple_add seq_tuple_add PySem.F.slot_tuple_add PySem.F.entry_tuple_add (PySem.F.args_tuple_add_2 _ _)
   (tuple_addW0 a b (List.toArray []) p.toArray n n2 dd w r A (by simp)) ⟨f,dl,.ref b,H,I,rfl,q b H (Same.refl H) (by simpa using hb)⟩
 ·refine HT.IG p1 p2 (fun z=>hx (c.nil_iff.mp z)) (fun z=>⟨.ref a,H,I,rfl,q a H (Same.refl H) ?_⟩) (fun z=>?_) (by rw[<-c.length,<-d.length];exact hz)
  ·rw[d.nil_iff.mp z,List.append_nil];exact e
  ·have hf:=I.hok.fresh (Ag s⁻¹)
   refine⟨.ref s⁻¹,_,I.laid (t':=s.toks) (o:=.tup (xs++ys)) (fun b ob q=>Ad _ q) (Ag _) ?_,rfl,q _ _ (Same.new hf) ai⟩;exact⟨by rw[As];exact hz,_,c.append d,IsTup.new _ _⟩
def gi(neg:Bool)(K:Ae):R2:=fun x y H Q=>∃a l ps as pss,x=.ref a/\y=.ref l/\Tp H a ps/\SqL K H l (as.map V.ref)/\Tps H as pss/\Q (.bl (if neg then !decide (ps∈pss) else decide (ps∈pss))) H
def iI(H:Hp)(ps:List Int)(u:Value):Bool:=match u with
 |.ref b=>(match H b with|some (.tup xs)=>decide (xs=ps.map V.int)|_=>false)
 |_=>false
def JV{ps a:List Int}:(ps.map V.int:List V)=a.map V.int↔ps=a:=
 ⟨fun z=>(List.map_inj_right (f:=V.int) (fun x y h=>V.int.inj h)).mp z,fun z=>by rw[z]⟩
def Es{H:Hp}{b:Addr}{ps a:List Int}(h:Tp H b a):iI H ps (.ref b)=decide (a=ps):=by
 show(match H b with|some (.tup xs)=>decide (xs=ps.map V.int)|_=>false)=_;rw[show H b=some (.tup (a.map V.int)) from h];simp only[JV]
def Et{H:Hp}{ps:List Int}{as:List Addr}{pss:Ξ}(h:Tps H as pss):(as.map Value.ref).any (iI H ps)=decide (ps∈pss):=by
 induction h with
 |nil=>simp
 |@cons a qs as pss r t ih=>
  rw[Ax,List.any_cons,ih,Es r]
  by_cases e:qs=ps
  ·subst e;simp
  ·have:¬ps=qs:=fun z=>e z.symm
   simp[e,this]
def Eu{aa:Ψ}{σ:St}{H:Hp}{s:Shared}{A:Around}{a:Addr}{ps:List Int}(I:Inv X aa σ H s)(c:Tp H a ps)(hu:A.units<cLine):∀{as:List Addr}{pss:Ξ},Tps H as pss->∀u∈as.map Value.ref,SeqAt.EqAt A s u (.ref a) (iI H ps u):=by
 intro as pss h
 induction h with
 |nil=>intro u hu;simp at hu
 |@cons b qs as pss r t ih=>
  intro u hm;rw[Ax] at hm;rcases List.mem_cons.mp hm with rfl|hm
  ·rw[Es r];exact JU I r c hu
  ·exact ih u hm
def ya(hu:X.A.in1.units<cLine):bU X (compareOp .In) (gi false X.K):=by
 intro aa s σ H x y v u Q I b c h;obtain⟨a,l,ps,as,pss,rfl,rfl,d,e,hp,q⟩:=h;cases b;cases c;obtain⟨g,r,f,hz⟩:=I.list e;obtain rfl:=aT r;refine SeqAt.in_listAt (iI H ps) f.isList (fun w hw=>Eu I d hu hp w (by simpa using hw)) ⟨.bl _,H,I,rfl,?_⟩;rw[show(as.map Value.ref).toArray.any (iI H ps)=(as.map Value.ref).any (iI H ps) by simp,Et hp];exact q
def Ev(hu:X.A.in1.units<cLine):bU X (compareOp .NotIn) (gi true X.K):=by
 intro aa s σ H x y v u Q I b c h;obtain⟨a,l,ps,as,pss,rfl,rfl,d,e,hp,q⟩:=h;cases b;cases c;obtain⟨g,r,f,hz⟩:=I.list e;obtain rfl:=aT r;refine SeqAt.notIn_listAt (iI H ps) f.isList (fun w hw=>Eu I d hu hp w (by simpa using hw)) ⟨.bl _,H,I,rfl,?_⟩;rw[show(as.map Value.ref).toArray.any (iI H ps)=(as.map Value.ref).any (iI H ps) by simp,Et hp];exact q
def yb{aa:Ψ}{σ:St}{H:Hp}{s:Shared}{a:Addr}{ps:List Int}(I:Inv X aa σ H s)(c:Tp H a ps):Reads s.heap (.ref a) (.tuple (ps.map Bj)) []:=by
 obtain⟨d,r,p,_⟩:=I.tuple (SqT.of c);obtain⟨o,b,hc,n,hd⟩:=id p;exact .tuple b hc hd ((PySem.W.ke_carried (intsAre_of r)).reads s.heap)
def JW{aa:Ψ}{σ:St}{H:Hp}{s:Shared}(I:Inv X aa σ H s):∀{as:List Addr}{pss:Ξ},Tps H as pss->ReadsAll s.heap (as.map Value.ref) (pss.map fun ps=>PyData.tuple (ps.map Bj)) []:=by
 intro as pss h
 induction h with
 |nil=>exact .nil
 |cons r t ih=>exact .cons (as:=[]) (bs:=[]) (yb I r) ih
def rh{aa:Ψ}{σ:St}{H:Hp}{s:Shared}{l:Addr}{as:List Addr}{pss:Ξ}(I:Inv X aa σ H s)(b:SqL X.K H l (as.map V.ref))(h:Tps H as pss):Reads s.heap (.ref l) (.list (pss.map fun ps=>PyData.tuple (ps.map Bj))) [l]:=by
 obtain⟨c,r,p,_⟩:=I.list b;obtain rfl:=aT r;obtain⟨o,a,hc,n,hd⟩:=p.isList;exact .list a hc hd (by simpa using JW I h)
def Ew(ps:List Int):PyData.canLay0 (.tuple (ps.map Bj))=true:=by simp[PyData.canLay0,PySem.W.ke_canLayAll0]
def Ex(ps:List Int):PyData.depth (.tuple (ps.map Bj))=1:=by simp[PyData.depth,PySem.W.ke_depthAll]
def Ey(ps:List Int):SeqAt.shaped (.tuple (ps.map Bj))=true:=by
 simp[SeqAt.shaped,Ew,Ex]
def Ez:∀pss:Ξ,PyData.canLayAll0 (pss.map fun ps=>PyData.tuple (ps.map Bj))=true
 |[]=>rfl
 |ps::r=>by rw[Ax,PyData.canLayAll0,Ew,Ez r];rfl
def EA:∀pss:Ξ,PyData.depthAll (pss.map fun ps=>PyData.tuple (ps.map Bj))<=1
 |[]=>AK _
 |ps::r=>by rw[Ax,PyData.depthAll,Ex];exact Nat.max_le.mpr ⟨Ag _,EA r⟩
def yh(pss:Ξ):SeqAt.shaped (.list (pss.map fun ps=>PyData.tuple (ps.map Bj)))=true:=by
 have:=EA pss;have e:PyData.depth (.list (pss.map fun ps=>PyData.tuple (ps.map Bj)))<=64:=by rw[PyData.depth];omega
 unfold SeqAt.shaped;rw[decide_eq_true e,PyData.canLay0,Ez]
 rfl
def yk:∀pss af:Ξ,sameAll (pss.map fun ps=>PyData.tuple (ps.map Bj)) (af.map fun ps=>PyData.tuple (ps.map Bj))=decide (pss=af)
 |[],[]=>by simp[sameAll]
 |[],_::_=>by simp[sameAll]
 |_::_,[]=>by simp[sameAll]
 |a::r,b::t=>by
  simp only[Ax,sameAll,same,PySem.W.ke_sameAll,yk r t]
  by_cases h:a=b<;>by_cases h':r=t<;>simp[h,h']
def EC(ps:List Int):(Shape.tuples .int).has (.tuple (ps.map Bj))=true:=by simp[Shape.has]
def ri(pss:Ξ):(Shape.list (.tuples .int)).has (.list (pss.map fun ps=>PyData.tuple (ps.map Bj)))=true:=by simp[Shape.has]
def j0(neg:Bool)(K:Ae):R2:=fun x y H Q=>(∃a b ps c,x=.ref a/\y=.ref b/\Tp H a ps/\Tp H b c/\Q (.bl (if neg then !decide (ps=c) else decide (ps=c))) H) \/
 (∃l m as bs pss af,x=.ref l/\y=.ref m/\SqL K H l (as.map V.ref)/\Tps H as pss/\SqL K H m (bs.map V.ref)/\Tps H bs af/\Q (.bl (if neg then !decide (pss=af) else decide (pss=af))) H)
def JX(hu:X.A.units+64<cLine):bU X (compareOp .NotEq) (j0 true X.K):=by
 intro aa s σ H x y v u Q I d e h;rcases h with ⟨a,b,ps,c,rfl,rfl,f,hb,q⟩|⟨l,m,as,bs,pss,af,rfl,rfl,g,hp,hm,hq,q⟩
 ·cases d
  cases e;refine ne_dataH_same (yb I f) (yb I hb) (Ey _) (Ey _) hu (SeqAt.noMix_of_shape (.tuples .int) rfl _ _ (EC _) (EC _)) ?_;rw[show same (.tuple (ps.map Bj)) (.tuple (c.map Bj))=decide (ps=c) from by simp only[same];exact PySem.W.ke_sameAll ps c];exact⟨.bl _,H,I,rfl,q⟩
 ·cases d
  cases e;refine ne_dataH_same (rh I g hp) (rh I hm hq) (yh _) (yh _) hu (SeqAt.noMix_of_shape (.list (.tuples .int)) rfl _ _ (ri _) (ri _)) ?_;rw[show same (.list (pss.map fun ps=>PyData.tuple (ps.map Bj))) (.list (af.map fun ps=>PyData.tuple (ps.map Bj)))=decide (pss=af) from by simp only[same];exact yk pss af];exact⟨.bl _,H,I,rfl,q⟩
def zl4:V->List V->Hp->VK->Prop:=fun x vs H Q=>∃l xs i y,x=.ref l/\vs=[.int i,y]/\H l=some (.lst xs)/\0<=i/\i<=xs.length/\xs.length<sizeLine/\Q .non (upd H l (.lst (xs.take i.toNat++y::xs.drop i.toNat)))
def JY:kW X "list.insert" zl4:=by
 intro aa s σ H x vs v us Q I d f h;obtain⟨l,xs,i,y,rfl,rfl,b,o,hi,hz,q⟩:=h;cases d;obtain⟨u,c,rfl,g,j⟩:=f.two;obtain⟨t,rfl⟩:=g;obtain⟨z,a,n,r,p,e⟩:=I.lstM b;have w:sizeLine<2 ^ 62:=by rw[sizeLine_eq];decide
 have hf:Builtin.List.listFitsIndex i=true:=by
  unfold Builtin.List.listFitsIndex;simp only[AN,decide_eq_true_eq];constructor<;>omega
 refine call_meets F.slot_list_insert ⟨_,e,rfl⟩ F.entry_list_insert (F.args_list_insert_3 _ _ _) (PySem.AutoSeq1.list_insert_list_int_val_1 l a.toArray n i t c (by simp[hf]) (by rw[Aj];omega)) ⟨e,?_⟩;refine⟨.non,_,I.lset (its':=a.take i.toNat++c::a.drop i.toNat) (t':=s.toks) b e ?_ ((r.take _).append (.cons j (r.drop _))) ?_,rfl,q⟩
 ·have hk:(if i<0 then(i+(a.toArray.size:Int)).toNat else min i.toNat a.toArray.size)=i.toNat:=by
   rw[if_neg ω,Aj];omega
  dsimp only;rw[hk];simp;exact Az (by rw[List.length_drop];exact Ag _)
 ·rw[As,Au,AG,List.length_drop]
  omega
def JZ:zU X (.type "int") (fun xs H Q=>∃x n,xs=[.str x]/\PySem.intText? x=some n/\x.length<=640/\Q (.int n) H):=by
 intro aa s σ H xs us Q I r h;obtain⟨x,n,rfl,a,b,q⟩:=h;obtain⟨u,rfl,t,rfl⟩:=vals1 r;exact PySem.W.KIN.call_text a b ⟨.int n,H,I.tok _,⟨_,rfl⟩,q⟩
def J0:zU X (.builtin "isinstance") (fun xs H Q=>∃b,xs=[.bl b,.ty "bool"]/\Q (.bl true) H):=by
 intro aa s σ H xs us Q I r h;obtain⟨b,rfl,q⟩:=h;obtain⟨u,d,rfl,a,c⟩:=vals2 r;cases a;cases c;exact call_isinstance_yes (Tx:="bool") (T:="bool") rfl (by first|rfl|kernel_rfl|(rw[typeOf];kernel_rfl)) (by rw[isSubtype_type];kernel_rfl) ⟨.bl true,H,I,rfl,q⟩
end
section
variable{X:Cx}{aa:Ψ}{σ:St}{H:Hp}{s:Shared}
def EE{A:Around}(h:A.units+64<cLine):A.in1.in1.units<cLine:=by show A.units+1+1<cLine;omega
def in1_units{A:Around}(h:A.units+64<cLine):A.in1.units<cLine:=by show A.units+1<cLine;omega
def rj:zU X (.builtin "sorted") (fun xs H Q=>∃(l:Addr)(ns:List Int),xs=[.ref l]/\SqL X.K H l (ns.map V.int)/\ns.length<64/\∀(D:Addr)(ms:List Int),ms.Perm ns->ms.Pairwise (·<=·)->H D=none->Q (.ref D) (upd H D (.lst (ms.map V.int)))):=by
 intro aa s σ H xs us Q I r h;obtain⟨l,ns,rfl,hq,o,q⟩:=h;obtain⟨u,rfl,v⟩:=vals1 r;cases v;obtain⟨d,f,p1,hz⟩:=I.list hq;have hi:IntsAre d ns:=intsAre_of f;have a:=f.length;rw[Ab] at a hz;refine bg.Ec (ls:=ns.map fun n=>[n]) (good:=fun _=>True) p1.isList (bg.w_ hi) (fun _ _=>trivial) ω ω fun out b=>?_;obtain⟨ps,hp,b,hs⟩:=b;have all:∀p∈ps,∃n t,p.1=[n]/\p.2=Value.int n t:=fun p j=>by
  obtain⟨i,e⟩:=List.mem_iff_getElem?.mp (hp.mem_iff.mp j);rw[bg.bC,Ai] at e;cases e1:ns[i]? with
  |none=>rw[e1] at e;simp at e
  |some n=>
   obtain⟨t,e2⟩:=hi.get i n e1;rw[e1,e2] at e;simp only[A6,Option.bind_some,Bd] at e;subst e;exact⟨n,t,rfl,rfl⟩
 have x:∀ps:List (List Int×Value),(∀p∈ps,∃n t,p.1=[n]/\p.2=Value.int n t)->Vals ((ps.map fun p=>p.1.headD 0).map V.int) (ps.map (·.2)):=by
  intro ps
  induction ps with
  |nil=>intro _;exact .nil
  |cons p ps ih=>
   intro h;obtain⟨n,t,e1,e2⟩:=h p Av;refine .cons ?_ (ih fun q hq=>h q (Ay _ hq));show RelV (V.int (p.1.headD 0)) p.2;rw[e1,e2];exact⟨t,rfl⟩
 have g:(ps.map fun p=>p.1.headD 0).Perm ns:=by
  have h1:=hp.map (fun p:List Int×Value=>p.1.headD 0);have e:((ns.map fun n=>[n]).zip d).map (fun p:List Int×Value=>p.1.headD 0)=ns:=by
   rw[show(fun p:List Int×Value=>p.1.headD 0)=(fun l:List Int=>l.headD 0) ∘ Prod.fst from rfl,<-At,List.map_fst_zip (by rw[Ab];omega),At];exact List.map_id' ns
  rw[e] at h1;exact h1
 have y:(ps.map fun p=>p.1.headD 0).Pairwise (·<=·):=by
  rw[Bf];refine hs.imp_of_mem fun{p q} h1 h2 c=>?_;obtain⟨n,t,e1,_⟩:=all p h1;obtain⟨m,t',e2,_⟩:=all q h2;rw[e1,e2,HT.zF] at c;rw[e1,e2];show n<=m
  by_cases e:m=n
  ·omega
  ·rw[if_neg e] at c
   have:=of_decide_eq_false c;omega
 obtain⟨e,he⟩:=sortedAll_at s.heap d out;refine⟨.ref (s⁻¹+1),_,I.laid (t':=s.toks) (fun _ _=>sortedAll_old) (Nat.le_succ _) (show zB X.prog X.w _ _ _ (.lst ((ps.map fun p=>p.1.headD 0).map V.int)) from⟨?_,out.toList,e,?_,?_⟩),rfl,q _ _ g y (I.hok.fresh (Nat.le_succ _))⟩
 ·rw[Ab,g.length_eq];exact hz
 ·rw[b];exact x ps all
 ·simpa using he
def n4(H:Hp)(p:Addr)(l:List Int):Prop:=∃n b ps,l=n::ps/\H p=some (.tup [.int n,.ref b])/\Tp H b ps
def EF{p:Addr}{l:List Int}(I:Inv X aa σ H s)(h:n4 H p l):bg.IsPr s.heap (.ref p) l:=by
 obtain⟨n,b,ps,rfl,h1,h2⟩:=h;obtain⟨f,a,p1,_⟩:=I.tuple (SqT.of (K:=X.K) h1);obtain⟨u,g,rfl,⟨t,rfl⟩,c⟩:=vals2 a;cases c;obtain⟨d,e,p2,_⟩:=I.tuple (SqT.of (K:=X.K) h2);exact⟨p,b,n,t,d,ps,rfl,rfl,p1,p2,intsAre_of e⟩
def J1{h h':Heap}{u:Value}{l:List Int}(k:∀b o,h.get? b=some o->h'.get? b=some o)(x:bg.IsPr h u l):bg.IsPr h' u l:=by
 obtain⟨a,b,n,t,d,ps,e1,e2,⟨o,e,hc⟩,⟨o',c,f⟩,i⟩:=x;exact⟨a,b,n,t,d,ps,e1,e2,⟨o,k _ _ e,hc⟩,⟨o',k _ _ c,f⟩,i⟩
def rm{a b:Type}{R:a->b->Prop}{l:List a}{m:List b}(p:Paired R l m):∀(i:Nat) x y,l[i]?=some x->m[i]?=some y->R x y:=by
 induction p with
 |nil=>intro i x y h;simp at h
 |cons r t ih=>
  intro i x y h1 h2;cases i with
  |zero=>simp at h1 h2;subst h1 h2;exact r
  |succ i=>exact ih i x y (by simpa using h1) (by simpa using h2)
def addrOf:Value->Addr
 |.ref a=>a
 |_=>0
def J2(hu:X.A.units+64<cLine):zU X (.builtin "sorted") (fun xs H Q=>∃(l:Addr)(as:List Addr)(ls:Ξ),xs=[.ref l]/\SqL X.K H l (as.map V.ref)/\Paired (n4 H) as ls/\ls.length<64/\
  ∀(D:Addr)(j:List (List Int×Addr)),j.Perm (ls.zip as)->j.Pairwise (fun a b=>HT.lexLt b.1 a.1=false)->H D=none->Q (.ref D) (upd H D (.lst (j.map fun q=>V.ref q.2)))):=by
 intro aa s σ H xs us Q I r h;obtain⟨l,as,ls,rfl,hq,hp,y,q⟩:=h;obtain⟨u,rfl,z⟩:=vals1 r;cases z;obtain⟨F,v,p1,hz⟩:=I.list hq;have d:=v.length;obtain rfl:=aT v;rw[Ab] at d hz;have C:=A2 hp;have E:∀h:Heap,(∀b o,s.heap.get? b=some o->h.get? b=some o)->∀(i:Nat) u l,(as.map Value.ref)[i]?=some u->ls[i]?=some l->bg.IsPr h u l:=fun h hk i u l h1 h2=>by
  rw[Ai] at h1;cases e:as[i]? with
  |none=>rw[e] at h1;simp at h1
  |some a=>
   rw[e] at h1;obtain rfl:=An h1;exact J1 hk (EF I (rm hp i a l e h2))
 refine bg.Ec (ls:=ls) (good:=fun h=>∀b o,s.heap.get? b=some o->h.get? b=some o) p1.isList (bg.Ea (by rw[Ab];exact C) (EE hu) ⟨s.heap,fun _ _ e=>e⟩ E) (fun h' hk=>hk) (by rw[Ab];exact hz) (by rw[Ab];omega) fun out f=>?_;obtain⟨ps,c,f,hs⟩:=f;have all:∀p∈ps,p.2=Value.ref (addrOf p.2):=fun p g=>by
  have:=(List.of_mem_zip (c.mem_iff.mp g:(p.1,p.2)∈ls.zip (as.map Value.ref))).2;obtain⟨a,_,e⟩:=List.mem_map.mp this;rw[<-e];rfl
 have x:(ps.map fun p=>(p.1,addrOf p.2)).Perm (ls.zip as):=by
  have h1:=c.map (fun p:List Int×Value=>(p.1,addrOf p.2));have e:(ls.zip (as.map Value.ref)).map (fun p:List Int×Value=>(p.1,addrOf p.2))=ls.zip as:=by
   rw[List.zip_map_right,At];exact(A7 fun p _=>rfl).trans (List.map_id' _)
  rw[e] at h1;exact h1
 obtain⟨e,he⟩:=sortedAll_at s.heap (as.map Value.ref) out;have ex:out.toList=((ps.map fun p=>(p.1,addrOf p.2)).map fun q=>Value.ref q.2):=by
  rw[f,At];exact A7 fun p g=>all p g
 refine⟨.ref (s⁻¹+1),_,I.laid (t':=s.toks) (fun _ _=>sortedAll_old) (Nat.le_succ _) (show zB X.prog X.w _ _ _ (.lst ((ps.map fun p=>(p.1,addrOf p.2)).map fun q=>V.ref q.2)) from⟨?_,out.toList,e,?_,?_⟩),rfl,q _ _ x ?_ (I.hok.fresh (Nat.le_succ _))⟩
 ·rw[Ab,x.length_eq,List.length_zip];omega
 ·rw[ex]
  exact x9 (fun q:List Int×Addr=>q.2) _
 ·simpa using he
 ·rw[Bf];exact hs
def rn:Sp:=fun vs H Q _=>∃a ps,vs=[.ref a]/\Tp H a ps/\∀p,H p=none->Q (.ref p) (upd H p (.tup [.int ps.length,.ref a]))
def EG{b:Addr}(h:a_ X aa H b):∀c∈[b],a_ X aa H c:=fun c hc=>by rw[List.mem_singleton.mp hc];exact h
def n6{H':Hp}{b:Addr}(f:a_ X aa H b)(a:H' b=none):a_ X aa H' b:=⟨a,f.2⟩
def EH{b:Addr}(I:Inv X aa σ H s)(f:a_ X aa H b):b∉frs X.stack:=fun hb=>by
 rcases List.mem_cons.mp (I.stkSub b hb) with e|e
 ·exact f.2.1 e
 ·exact f.2.2.1 e
def J3{k:Nat}{f l:Addr}{fd:FuncData}{as:List Addr}{pss:Ξ}{x:Str}{Q:Ω}(F:FnOk X.prog X.w X.K X.mg X.base aw k f fd [x] rn)(hr:Room (k+2) X.A)(hb:Binds X.K fd [x] [])(I:Inv X aa σ H s)(hl:SqL X.K H l (as.map V.ref))(ht:Tps H as pss)(h64:pss.length<64)(h:∀D H'(C:List (List Int×Addr)) s',Inv X aa σ H' s'->Same H H'->H D=none->H' D=some (.lst (C.map fun q=>V.ref q.2))->C.Perm (pss.zip as)->
   C.Pairwise (fun a b=>HT.lexLt ((b.1.length:Int)::b.1) ((a.1.length:Int)::a.1)=false)->Q (.ref D) s'):
  wpAny (model X.prog X.w) X.A (call (.builtin "sorted") [.ref l] [(Bm "key",.ref f)]) Q X.xe s:=by
 have hu:X.A.units+64<cLine:=hr.units;obtain⟨ae,r1,p1,hz⟩:=I.list hl;have hlen:=r1.length;obtain rfl:=aT r1;have aF:=ht.length;rw[Ab] at hlen hz;have P:(as.map Value.ref).length<=sizeLine:=by rw[Ab];exact hz
 generalize hvs:as.map Value.ref=vs at p1 P;have qV:vs.length=as.length:=by rw[<-hvs,Ab]
 refine call_function_entry_kw kind_sorted plain_sorted entry_sorted (ksk_s1 _ _) ?_;unfold Builtin.«sorted»;refine Aa (m:=checkCount "sorted" 1 1 _) (Ac ?_);refine Aa (collect_list p1.isList ?_ P);refine Aa (wpAny_newList ?_ P);have hsz:((s.heap.push (seqObj "list" #[] 0)).update s⁻¹ (AH (·++vs.toArray))).objs.size=s⁻¹+1:=by
  rw[Bb,size_push']
 have g:(((s.heap.push (seqObj "list" #[] 0)).update s⁻¹ (AH (·++vs.toArray))).push (seqObj "list" vs.toArray 0)).get? (s⁻¹+1)=some (seqObj "list" vs.toArray 0):=by
  rw[<-hsz];exact Al _ rfl
 have keep:∀b o,s.heap.get? b=some o->(((s.heap.push (seqObj "list" #[] 0)).update s⁻¹ (AH (·++vs.toArray))).push (seqObj "list" vs.toArray 0)).get? b=some o:=fun b o q=>by
  have L:b<s⁻¹:=Ak q;rw[Heap.get?_push_ne _ _ _ (by rw[hsz];exact Ao (Be L)),Heap.get?_update_ne _ _ _ _ (Ao L),Heap.get?_push_ne _ _ _ (Ao L)];exact q
 show wpAny _ _ _ _ _ {s with heap:=((s.heap.push (seqObj "list" #[] 0)).update s⁻¹ (AH (·++vs.toArray))).push (seqObj "list" vs.toArray 0)};rw[hsz];generalize hA:((s.heap.push (seqObj "list" #[] 0)).update s⁻¹ (AH (·++vs.toArray))).push (seqObj "list" vs.toArray 0)=d at g keep ⊢;have I1:Inv X aa σ H {s with heap:=d}:=I.kept (t':=s.toks) keep;have S:a_ X aa H (s⁻¹+1):=I.fpOk (Nat.le_succ _) (I.hok.fresh (Nat.le_succ _));generalize hD:s⁻¹+1=D at g S ⊢;have uu:D<d.objs.size:=Ak g;refine Aa (AA (wpAny_call_entry_kw slot_list_sort ⟨_,g,rfl⟩ entry_list_sort ?body (ksk_l1 _ _)))
 case body=>
  show wpAny (model X.prog X.w) X.A.in1.in1 (Builtin.«list.sort» ⟨[.ref D],[(Bm "key",.ref f)]⟩) _ _ _;rw[ksk_t1];unfold ksk_tree;refine Aa (listItems_at g rfl ?_);refine Aa (listUpdate_at g rfl ?_ (by rw[Aj];exact P) (AK _));obtain⟨e1,eC⟩:∃e1,(d.update D (AH fun _=>(#[]:Array Value))).get? D=some (seqObj "list" #[] e1):=⟨_,get?_update_seq g fun _=>#[]⟩;refine Aa (seqEpoch_at eC rfl ?_);refine Aa (wpAny_newTuple ?_ (by show vs.length<=_;exact P));refine Aa (wpAny_newList ?_ (AK _));refine AA ?_;have I2:Inv X aa σ H {s with heap:=d.update D (AH fun _=>(#[]:Array Value))}:=
   Inv.turneds (s:={s with heap:=d}) (t':=s.toks) (ch:=[D]) I1 (EG S) fun b o hb q=>by rw[Heap.get?_update_ne _ _ _ _ (fun z=>hb (by simp[z]))];exact q
  have I3:Inv X aa σ H {s with heap:=((d.update D (AH fun _=>(#[]:Array Value))).push (seqObj "tuple" vs.toArray 0))}:=I2.kept (t':=s.toks) fun b u q=>Ad _ q;have lS:a_ X aa H ((d.update D (AH fun _=>(#[]:Array Value))).push (seqObj "tuple" vs.toArray 0)).objs.size:=I3.fpOk (Ag _) (I3.hok.fresh (Ag _));have lr:((d.update D (AH fun _=>(#[]:Array Value))).push (seqObj "tuple" vs.toArray 0)).objs.size≠D:=by
   rw[size_push',Bb];omega
  have I4:Inv X aa σ H {s with heap:=(((d.update D (AH fun _=>(#[]:Array Value))).push (seqObj "tuple" vs.toArray 0)).push (seqObj "list" #[] 0))}:=I3.kept (t':=s.toks) fun b u q=>Ad _ q;have kT:(((d.update D (AH fun _=>(#[]:Array Value))).push (seqObj "tuple" vs.toArray 0)).push (seqObj "list" #[] 0)).get? ((d.update D (AH fun _=>(#[]:Array Value))).push (seqObj "tuple" vs.toArray 0)).objs.size=some (seqObj "list" #[] 0):=Al _ rfl;have a7:(((d.update D (AH fun _=>(#[]:Array Value))).push (seqObj "tuple" vs.toArray 0)).push (seqObj "list" #[] 0)).get? D=some (seqObj "list" #[] e1):=Ad _ (Ad _ eC);show wpAny (model X.prog X.w) X.A.in1.in1 (ksk_rest D (.ref f) false vs.toArray e1 (.ref ((d.update D (AH fun _=>(#[]:Array Value))).push (seqObj "tuple" vs.toArray 0)).objs.size)) _ _ {s with heap:=((d.update D (AH fun _=>(#[]:Array Value))).push (seqObj "tuple" vs.toArray 0)).push (seqObj "list" #[] 0)};generalize ((d.update D (AH fun _=>(#[]:Array Value))).push (seqObj "tuple" vs.toArray 0)).objs.size=kS at *;generalize ((d.update D (AH fun _=>(#[]:Array Value))).push (seqObj "tuple" vs.toArray 0)).push (seqObj "list" #[] 0)=eM at *;unfold ksk_rest;refine Aa (wpAny_rule ?_)
  first
   |rw[List.forIn_toArray]
   |(rw[<-Array.forIn_toList];simp only[List.toList_toArray])
  refine Aa (ksk_fold (fun i s'=>∃y E e ks,Inv X aa σ y s'/\Same H y/\y D=none/\y kS=none/\s'.heap.get? kS=some (seqObj "list" E e)/\s'.heap.get? D=some (seqObj "list" #[] e1)/\E.toList=ks.map Value.ref/\ks.length=i/\
    ∀(j:Nat) p,ks[j]?=some p->∃a ps,as[j]?=some a/\pss[j]?=some ps/\y p=some (.tup [.int ps.length,.ref a])) vs 0 _
   ⟨H,#[],0,[],I4,Same.refl H,S.1,lS.1,kT,a7,rfl,rfl,fun j p e=>by simp at e⟩ ?step ?done)
  case step=>
   rintro j v s' hv ⟨y,E,e,ks,Ik,N,O,T,U,na,lL,J,bb⟩;simp only[Nat.zero_add] at J ⊢;have cR:j<as.length:=by rw[<-qV];exact(List.getElem?_eq_some_iff.mp hv).1
   have Z:as[j]?=some as[j]:=Af cR;obtain⟨ps,aA,aM⟩:=ht.get Z;have ev:v=.ref as[j]:=by
    rw[<-hvs,Ai,Z] at hv;exact(An hv).symm
   subst ev;refine Aa (wpAny_attempt (wpAny_call (Bc (F.run X.A.in1.in1 X.stack s' y ⟨[.ref as[j]],[]⟩ [.ref as[j]] [.ref as[j]] (fun v H'=>∃p,v=.ref p/\y p=none/\H'=upd y p (.tup [.int ps.length,.ref as[j]])) E0
    (Room.in1 (Room.in1 hr)) Ik.env0.in1.in1 (hb s' [.ref as[j]] Ik.kIn rfl) (.cons rfl .nil) ⟨as[j],ps,rfl,N.tp aM,fun p hp=>⟨p,rfl,hp,rfl⟩⟩) fun r M hq=>?_)))
   cases r with
   |error e=>exact False.elim hq
   |ok fl=>
    cases fl with
    |next=>exact False.elim hq
    |brk=>exact False.elim hq
    |cont=>exact False.elim hq
    |ret u=>
     obtain⟨v,H',os,W,un,hok,ru,p,rfl,hp,rfl⟩:=hq;cases ru;have I5:Inv X aa σ (upd y p (.tup [.int ps.length,.ref as[j]])) M:=Ik.call' os un hok W (fun b z=>nomatch z);have fD:=n6 S O;have fK:=n6 lS T;have wg:=un.keep D _ na O (EH Ik fD) (by simp);have rp:=un.keep kS _ U T (EH Ik fK) (by simp);have fZ:=un.free D _ na O (by simp);have pO:=un.free kS _ U T (by simp)
     try dsimp only
     have hkz:E.size=j:=by rw[<-Aw,lL,Ab,J]
     obtain⟨c2,cP⟩:∃c2,(M.heap.update kS (AH (·.push (.ref p)))).get? kS=some (seqObj "list" (E.push (.ref p)) c2):=⟨_,get?_update_seq rp (·.push (.ref p))⟩;have s1:=AL M.heap kS (AH (·.push (.ref p)));have u3:=n6 lS pO;have I6:Inv X aa σ (upd y p (.tup [.int ps.length,.ref as[j]])) {M with heap:=M.heap.update kS (AH (·.push (.ref p)))}:=
      I5.turneds (t':=M.toks) (ch:=[kS]) (EG u3) fun b o hb q=>(s1.2 b (fun z=>hb (by simp[z]))).trans q
     refine Aa (listUpdate_at rp rfl ?_ ω (AO (Nat.le_of_eq (Array.size_push ..)) ω));refine Ac ⟨rfl,_,E.push (.ref p),c2,ks++[p],I6,N.then (by exact N.free hp),fZ,pO,cP,(s1.2 D lr.symm).trans wg,by rw[Array.toList_push,lL,Am];rfl,by rw[As,J];rfl,fun i p' G=>?_⟩
     by_cases hi:i<ks.length
     ·rw[List.getElem?_append_left hi] at G
      obtain⟨a,hZ,x1,x2,x3⟩:=bb i p' G;exact⟨a,hZ,x1,x2,by rw[zl (zg x3 hp)];exact x3⟩
     ·rw[List.getElem?_append_right ω] at G
      have h0:i-ks.length=0:=by
       rcases Nat.eq_zero_or_pos (i-ks.length) with z|z
       ·exact z
       ·rw[List.getElem?_eq_none (by simp only[Au,List.length_nil];omega)] at G;cases G
      rw[h0] at G;obtain rfl:p=p':=by simpa using G
      have hij:i=j:=ω
      subst hij;exact⟨_,ps,Z,aA,ai⟩
  case done=>
   rintro s' ⟨y,E,e,ks,Ik,N,O,T,U,na,lL,J,bb⟩;simp only[Nat.zero_add] at J
   try dsimp only
   refine Aa (listItems_at U rfl ?_);unfold ksk_end
   try dsimp only
   simp only[Ah,if_false];have sU:E=(ks.map Value.ref).toArray:=by rw[<-lL,Array.toArray_toList]
   subst sU;have iM:∀(i:Nat) u l,(ks.map Value.ref)[i]?=some u->(pss.map fun ps=>(ps.length:Int)::ps)[i]?=some l->bg.IsPr s'.heap u l:=fun i u l h1 h2=>by
    rw[Ai] at h1 h2;cases ek:ks[i]? with
    |none=>rw[ek] at h1;simp at h1
    |some p=>
     obtain⟨a,ps,x1,x2,x3⟩:=bb i p ek;rw[ek] at h1;rw[x2] at h2;obtain rfl:=An h1;obtain rfl:=An h2;obtain⟨hZ,y1,y2⟩:=ht.get x1;rw[x2] at y1;obtain rfl:=An y1;exact EF Ik ⟨_,a,ps,rfl,x3,N.tp y2⟩
   refine bg.Eb (us:=ks.map Value.ref) (vs:=vs) (ls:=pss.map fun ps=>(ps.length:Int)::ps) (good:=fun h=>h=s'.heap) (bg.Ea (by rw[Ab,Ab,J,qV];exact aF) (EE hu) ⟨_,rfl⟩ (by rintro h rfl;exact iM)) (by rw[Ab,J]) ω rfl fun ah ho hst hf=>?_;refine bg.JC (ls:=pss.map fun ps=>(ps.length:Int)::ps) (vs:=vs) U na lr (by rw[Aj,Ab];omega) ho hst P hf fun h' out c kk iF Bn mO tD=>⟨_,rfl,?_⟩;refine Ac ⟨_,rfl,?_⟩;obtain⟨ps,Y,bA,hs⟩:=mO;subst hvs;have I7:Inv X aa σ y {s' with heap:=h'}:=Ik.turneds (t':=s'.toks) (ch:=[kS,D]) (fun b hb=>by
     simp only[List.mem_cons,List.not_mem_nil,or_false] at hb;rcases hb with rfl|rfl
     ·exact n6 lS T
     ·exact n6 S O) fun b o hb q=>kk b o (fun z=>hb (by simp[z])) (fun z=>hb (by simp[z])) q
   have all:∀p∈ps,∃a C,p.2=Value.ref a/\p.1=((C:List Int).length:Int)::C:=fun p bE=>by
    obtain⟨h1,h2⟩:=List.of_mem_zip (Y.mem_iff.mp bE:(p.1,p.2)∈_);obtain⟨a,_,Z⟩:=List.mem_map.mp h2;obtain⟨C,_,eq⟩:=List.mem_map.mp h1;exact⟨a,C,Z.symm,eq.symm⟩
   have pm:(ps.map fun p=>(p.1.tail,addrOf p.2)).Perm (pss.zip as):=by
    have h1:=Y.map (fun p:List Int×Value=>(p.1.tail,addrOf p.2));have e:((pss.map fun ps=>(ps.length:Int)::ps).zip (as.map Value.ref)).map (fun p:List Int×Value=>(p.1.tail,addrOf p.2))=pss.zip as:=by
     rw[List.zip_map,At];exact(A7 fun p _=>rfl).trans (List.map_id' _)
    rw[e] at h1;exact h1
   have ex:out.toList=((ps.map fun p=>(p.1.tail,addrOf p.2)).map fun q=>Value.ref q.2):=by
    rw[bA,At];refine A7 fun p bE=>?_;obtain⟨a,C,e1,_⟩:=all p bE;show p.2=Value.ref (addrOf p.2);rw[e1];rfl
   have vv:Vals ((ps.map fun p=>(p.1.tail,addrOf p.2)).map fun q=>V.ref q.2) out.toList:=by
    rw[ex];exact x9 (fun q:List Int×Addr=>q.2) _
   obtain⟨f0,f1,f2,f3,f4,f5⟩:=S;have tU:X.s₀⁻¹<=D:=by rw[<-hD];exact AO I.sz (Nat.le_succ _)
   have I8:Inv X aa σ (upd y D (.lst ((ps.map fun p=>(p.1.tail,addrOf p.2)).map fun q=>V.ref q.2))) {s' with heap:=h'}:=by
    refine I7.adopt O tU f1 f4 f5 ⟨?_,out.toList,c,vv,?_⟩
    ·rw[Ab,pm.length_eq,List.length_zip];omega
    ·simpa using iF
   refine h D _ _ _ I8 (N.then f0) f0 ai pm ?_;rw[Bf];refine hs.imp_of_mem fun{p q} h1 h2 h3=>?_;obtain⟨_,C,_,e1⟩:=all p h1;obtain⟨_,yu,_,e2⟩:=all q h2;rw[e1,e2] at h3;rw[e1,e2];exact h3
end
section
variable{X:Cx}{a:Expr}{ta:TA}{p p2 pos ku:Pos}{k:Nat}{f:Addr}{fd:FuncData}{x y:Str}
def J4(K:Ae)(ta:TA):TE:=fun σ H Q=>ta σ H fun vs H1=>∃(l:Addr)(as:List Addr)(pss:Ξ),vs=[.ref l]/\SqL K H1 l (as.map V.ref)/\Tps H1 as pss/\pss.length<64/\
 ∀D H2(c:List (List Int×Addr)),Same H1 H2->H1 D=none->H2 D=some (.lst (c.map fun q=>V.ref q.2))->c.Perm (pss.zip as)->c.Pairwise (fun a b=>HT.lexLt ((b.1.length:Int)::b.1) ((a.1.length:Int)::a.1)=false)->Q (.ref D) H2
def J5(F:FnOk X.prog X.w X.K X.mg X.base aw k f fd [x] rn)(hr:Room (k+2) X.A)(hb:Binds X.K fd [x] [])(E:Gl X "sorted")(hm:X.mg "sorted"=none)(G:AX "sorted"=some (.builtin "sorted"))(J:Gl X y)(L:X.mg y=some (.ref f))(M:PA X [a] ta)(N:(y==("__debug__":Str))=false:=by decide)(he:starEach [a] X.env=[(false,eval a X.env)]:=by rfl):PE X (.Call (.Name "sorted" p) [a] [⟨some "key",.Name y p2,ku⟩] pos) (J4 X.K ta):=by
 intro aa s σ H Q I h;refine wpAny_Call_Name_kw (je I E hm G ?_);refine callWith_kw ?_ (by rw[he];rfl) (by rw[he];rfl) rfl rfl;refine aL (M pos aa s σ H _ I h) fun us d ⟨vs,H1,c,e,g⟩=>?_;obtain⟨l,as,pss,rfl,v,z,b,q⟩:=g;obtain⟨u,rfl,C⟩:=vals1 e;cases C;refine kws_cons (mm c J L (kws_nil ?_) N);show wpAny (model X.prog X.w) X.A (call (.builtin "sorted") [.ref l] [(Bm "key",.ref f)]) _ _ d;exact J3 F hr hb c v z b fun D H' i s' O j o r hp hs=>⟨.ref D,H',O,rfl,q D H' i j o r hp hs⟩
end
end L2
end
section
namespace STb
open PySem PySem.SetTable
def Ris(xs:Array Nat):Prop:=∀(i j a b:Nat),xs[i]?=some a->xs[j]?=some b->i<j->a<b
def Ris.inj{xs:Array Nat}(h:Ris xs){i j a:Nat}(h1:xs[i]?=some a)(h2:xs[j]?=some a):i=j:=by
 rcases Nat.lt_trichotomy i j with q|q|q
 ·exact absurd (h i j a a h1 h2 q) (Nat.lt_irrefl _)
 ·exact q
 ·exact absurd (h j i a a h2 h1 q) (Nat.lt_irrefl _)
def yB{xs:Array Nat}{j:Nat}(hr:Ris xs):∀(fuel lo hi:Nat),hi-lo<=fuel->lo<=hi->hi<=xs.size->(∀i a,xs[i]?=some a->i<lo->a<j)->(∀i a,xs[i]?=some a->hi<=i->j<=a)->
  below.go xs j fuel lo hi<=xs.size/\(∀i a,xs[i]?=some a->i<below.go xs j fuel lo hi->a<j)/\(∀i a,xs[i]?=some a->below.go xs j fuel lo hi<=i->j<=a)
 |0,lo,hi,h0,h1,h2,h3,h4=>by
  have e:lo=hi:=ω
  subst e;exact⟨h2,h3,h4⟩
 |fuel+1,lo,hi,h0,h1,h2,h3,h4=>by
  have d:below.go xs j (fuel+1) lo hi=if lo<hi then(if xs.getD ((lo+hi) / 2) j<j then below.go xs j fuel ((lo+hi) / 2+1) hi else below.go xs j fuel lo ((lo+hi) / 2)) else lo:=rfl;rw[d]
  by_cases c:lo<hi
  ·rw[if_pos c]
   have hm:(lo+hi) / 2<xs.size:=ω
   have em:xs[(lo+hi) / 2]?=some xs[(lo+hi) / 2]:=getElem?_pos xs _ hm;have f:xs.getD ((lo+hi) / 2) j=xs[(lo+hi) / 2]:=by simp[Array.getD,hm]
   rw[f]
   by_cases hc:xs[(lo+hi) / 2]<j
   ·rw[if_pos hc]
    refine yB hr fuel _ _ ω ω h2 (fun i a e b=>?_) h4;rcases Nat.lt_or_eq_of_le (Nat.lt_succ_iff.mp b) with q|q
    ·exact Nat.lt_trans (hr _ _ _ _ e em q) hc
    ·subst q;rw[em] at e;cases e;exact hc
   ·rw[if_neg hc]
    refine yB hr fuel _ _ ω ω ω h3 (fun i a e b=>?_);rcases Nat.lt_or_eq_of_le b with q|q
    ·have:=hr _ _ _ _ em e q
     omega
    ·subst q;rw[em] at e;cases e;omega
  ·rw[if_neg c]
   have e:lo=hi:=ω
   subst e;exact⟨h2,h3,h4⟩
def n7{xs:Array Nat}(hr:Ris xs)(j:Nat):below xs j<=xs.size/\(∀i a,xs[i]?=some a->i<below xs j->a<j)/\(∀i a,xs[i]?=some a->below xs j<=i->j<=a):=
 yB hr xs.size 0 xs.size ω ω (Ag _) (fun _ _ _ h=>absurd h (Nat.not_lt_zero _)) (fun i a e h=>by have:=(Array.getElem?_eq_some_iff.mp e).1;omega)
def below_at{xs:Array Nat}(hr:Ris xs){i j:Nat}(e:xs[i]?=some j):below xs j=i:=by
 obtain⟨h1,h2,a⟩:=n7 hr j;rcases Nat.lt_trichotomy (below xs j) i with q|q|q
 ·have hb:below xs j<xs.size:=Nat.lt_trans q (Array.getElem?_eq_some_iff.mp e).1
  have e2:=getElem?_pos xs (below xs j) hb;have b:=a _ _ e2 (Ag _);have c:=hr _ _ _ _ e2 e q;omega
 ·exact q
 ·exact absurd (h2 i j e q) (Nat.lt_irrefl _)
def eN{a:Type}(xs:Array a)(p:Nat)(x:a)(hp:p<=xs.size)(i:Nat):(insertAt xs p x)[i]?=if i<p then xs[i]? else if i=p then some x else xs[i-1]?:=by
 unfold insertAt;have hs:((xs.extract 0 p).push x).size=p+1:=by rw[Array.size_push,Array.size_extract];omega
 by_cases h1:i<p
 ·rw[if_pos h1,Array.getElem?_append_left ω,Array.getElem?_push_lt (by rw[Array.size_extract];omega)]
  simp[Array.getElem_extract,h1]
 ·rw[if_neg h1]
  by_cases h2:i=p
  ·subst h2
   rw[if_pos rfl,Array.getElem?_append_left ω];have e:(xs.extract 0 i).size=i:=by rw[Array.size_extract];omega
   have:=Array.getElem?_push_size (xs:=xs.extract 0 i) (x:=x);rw[e] at this;exact this
  ·rw[if_neg h2,Array.getElem?_append_right ω,hs,Array.getElem?_extract]
   by_cases b:i-(p+1)<xs.size-p
   ·rw[if_pos ω]
    congr 1
    omega
   ·rw[if_neg ω]
    exact(Array.getElem?_eq_none ω).symm
def og{a:Type}(xs:Array a)(p:Nat)(x:a)(hp:p<=xs.size):(insertAt xs p x).size=xs.size+1:=by
 unfold insertAt;rw[Array.size_append,Array.size_push,Array.size_extract,Array.size_extract];omega
def J6{xs:Array Nat}(hr:Ris xs){j:Nat}(p:∀i:Nat,xs[i]?≠some j):Ris (insertAt xs (below xs j) j):=by
 obtain⟨h1,h2,o⟩:=n7 hr j;intro a b x y d c e;rw[eN _ _ _ h1] at d c
 by_cases f:a<below xs j
 ·rw[if_pos f] at d
  by_cases g:b<below xs j
  ·rw[if_pos g] at c;exact hr _ _ _ _ d c e
  ·rw[if_neg g] at c
   by_cases h:b=below xs j
   ·rw[if_pos h] at c;cases c;exact h2 _ _ d f
   ·rw[if_neg h] at c;exact hr _ _ _ _ d c ω
 ·rw[if_neg f] at d
  rw[if_neg ω] at c
  by_cases l:a=below xs j
  ·rw[if_pos l] at d;cases d
   rw[if_neg ω] at c;have:=o _ _ c ω;rcases Nat.lt_or_eq_of_le this with q|q
   ·exact q
   ·subst q;exact absurd c (p _)
  ·rw[if_neg l] at d
   rw[if_neg ω] at c;exact hr _ _ _ _ d c ω
def fh(mask:Nat)(p:Probe):Probe:=
 if p.more>0 then {p with j:=p.j+1,more:=p.more-1} else
 {p with j:=(leap mask p.i p.perturb).1,more:=runEnd mask (leap mask p.i p.perturb).1-(leap mask p.i p.perturb).1,i:=(leap mask p.i p.perturb).1,perturb:=(leap mask p.i p.perturb).2}
def first(mask:Nat)(h:Int):Probe:={j:=bits h%(mask+1),more:=runEnd mask (bits h%(mask+1))-bits h%(mask+1),i:=bits h%(mask+1),perturb:=bits h,dummy:=none}
def pr(mask:Nat)(h:Int):Nat->Probe
 |0=>first mask h
 |n+1=>fh mask (pr mask h n)
def pos(mask:Nat)(h:Int)(n:Nat):Nat:=(pr mask h n).j
def EI(mask:Nat)(h:Int):∀n,(pr mask h n).dummy=none
 |0=>rfl
 |n+1=>by
  show(fh mask (pr mask h n)).dummy=none;unfold fh;split<;>exact EI mask h n
def lp(mask:Nat)(h:Int):Nat->Nat×Nat
 |0=>(bits h%(mask+1),bits h)
 |r+1=>leap mask (lp mask h r).1 (lp mask h r).2
def J7(mask i:Nat):runEnd mask i-i<=9:=by unfold runEnd;split<;>omega
def ro(mask:Nat)(h:Int){n r:Nat}(e:pr mask h n={j:=(lp mask h r).1,more:=runEnd mask (lp mask h r).1-(lp mask h r).1,i:=(lp mask h r).1,perturb:=(lp mask h r).2,dummy:=none}):∀k,k<=runEnd mask (lp mask h r).1-(lp mask h r).1->pr mask h (n+k)={j:=(lp mask h r).1+k,more:=runEnd mask (lp mask h r).1-(lp mask h r).1-k,i:=(lp mask h r).1,perturb:=(lp mask h r).2,dummy:=none}
 |0,_=>e
 |k+1,hk=>by
  have a:=ro mask h e k ω;show fh mask (pr mask h (n+k))=_;rw[a];unfold fh;rw[if_pos (by show runEnd mask (lp mask h r).1-(lp mask h r).1-k>0;omega)]
  congr 1
def EJ(mask:Nat)(h:Int):∀r,∃n,n<=10*r/\pr mask h n={j:=(lp mask h r).1,more:=runEnd mask (lp mask h r).1-(lp mask h r).1,i:=(lp mask h r).1,perturb:=(lp mask h r).2,dummy:=none}
 |0=>⟨0,Ag _,rfl⟩
 |r+1=>by
  obtain⟨n,a,e⟩:=EJ mask h r;have b:=J7 mask (lp mask h r).1;refine⟨n+(runEnd mask (lp mask h r).1-(lp mask h r).1)+1,ω,?_⟩;show fh mask (pr mask h (n+(runEnd mask (lp mask h r).1-(lp mask h r).1)))=_;rw[ro mask h e _ (Ag _)];unfold fh;rw[if_neg (by show ¬(runEnd mask (lp mask h r).1-(lp mask h r).1-(runEnd mask (lp mask h r).1-(lp mask h r).1)>0);omega)]
  rfl
def J8(h:Int):bits h<2 ^ 64:=by
 unfold bits;have h1:(0:Int)<=h%(2 ^ 64:Int):=Int.emod_nonneg _ ξ;have h2:h%(2 ^ 64:Int)<2 ^ 64:=Int.emod_lt_of_pos _ ξ;omega
def EK(mask:Nat)(h:Int):∀r,(lp mask h r).2=bits h / 32 ^ r
 |0=>by simp[lp]
 |r+1=>by
  show(lp mask h r).2 / 32=_;rw[EK mask h r,Nat.div_div_eq_div_mul,Nat.pow_succ]
def J9(mask:Nat)(h:Int){r:Nat}(hr:13<=r):(lp mask h r).2=0:=by
 rw[EK];have h1:=J8 h;have h2:32 ^ 13<=32 ^ r:=Nat.pow_le_pow_right ξ hr;exact Nat.div_eq_of_lt (AB h1 (AO ξ h2))
def EM(mask:Nat)(h:Int):∀r,(lp mask h r).1<=mask
 |0=>Nat.lt_succ_iff.mp (Nat.mod_lt _ (Nat.succ_pos _))
 |r+1=>Nat.lt_succ_iff.mp (Nat.mod_lt _ (Nat.succ_pos _))
def f5(mask x:Nat):Nat:=(x*5+1)%(mask+1)
def eW(mask:Nat):Nat->Nat->Nat
 |0,x=>x
 |k+1,x=>f5 mask (eW mask k x)
def yG(mask:Nat)(h:Int):∀k,(lp mask h (13+k)).1=eW mask k (lp mask h 13).1
 |0=>rfl
 |k+1=>by
  show((lp mask h (13+k)).1*5+1+(lp mask h (13+k)).2 / 32)%(mask+1)=f5 mask (eW mask k (lp mask h 13).1);rw[J9 mask h ω,yG mask h k]
  rfl
def ei(mask:Nat):Prop:=∀i s,i<=mask->s<=mask->∃k,k<=mask/\eW mask k i=s
def k_(mask:Nat):Nat->Nat->List Nat
 |0,_=>[]
 |n+1,x=>x::k_ mask n (f5 mask x)
def EN(mask:Nat):∀(n x k:Nat),k<n->(k_ mask n x)[k]?=some (eW mask k x)
 |0,_,_,h=>absurd h (Nat.not_lt_zero _)
 |n+1,x,0,_=>rfl
 |n+1,x,k+1,h=>by
  have a:=EN mask n (f5 mask x) k ω;show(k_ mask n (f5 mask x))[k]?=_;rw[a]
  congr 1
  have b:∀k x,eW mask k (f5 mask x)=f5 mask (eW mask k x):=by
   intro k
   induction k with
   |zero=>intro x;rfl
   |succ k a=>intro x;show f5 mask (eW mask k (f5 mask x))=_;rw[a];rfl
  exact b k x
def yM(mask:Nat):∀n x,(k_ mask n x).length=n
 |0,_=>rfl
 |n+1,x=>by show(k_ mask n (f5 mask x)).length+1=_;rw[yM mask n]
def rq(mask:Nat):∀(a b x:Nat),eW mask (a+b) x=eW mask a (eW mask b x)
 |0,b,x=>by rw[Nat.zero_add];rfl
 |a+1,b,x=>by
  rw[Nat.add_right_comm];show f5 mask (eW mask (a+b) x)=_;rw[rq mask a b x]
  rfl
def la{mask:Nat}(h:((Ba (mask+1)).all fun s=>(k_ mask (mask+1) 0).contains s)=true)(hp:eW mask (mask+1) 0=0):ei mask:=by
 have all:∀s,s<=mask->∃k,k<=mask/\eW mask k 0=s:=fun s hs=>by
  have h2:=List.all_eq_true.mp h s (List.mem_range.mpr ω);obtain⟨k,hk,e⟩:=List.mem_iff_getElem.mp (List.contains_iff_mem.mp h2);rw[yM] at hk;refine⟨k,ω,?_⟩;have e2:=EN mask (mask+1) 0 k hk;rw[Af (by rw[yM];exact hk),e] at e2;exact(An e2).symm
 intro i s hi hs;obtain⟨a,f,c⟩:=all i hi;obtain⟨b,hb,d⟩:=all s hs;rcases Nat.lt_or_ge b a with q|q
 ·refine⟨mask+1-a+b,ω,?_⟩
  rw[<-c,<-rq,show mask+1-a+b+a=b+(mask+1) from ω,rq,hp,d]
 ·refine⟨b-a,ω,?_⟩
  rw[<-c,<-rq,show b-a+a=b from ω,d]
def yQ:ei 7:=la δ δ
def gj:ei 31:=la δ δ
def oh:ei 15:=la δ δ
def js:ei 63:=la δ δ
def j7:ei 255:=la δ δ
def gk:ei 127:=la δ δ
def oj{mask:Nat}(hc:ei mask)(h:Int){x:Nat}(hx:x<=mask):∃n,n<10*turns mask/\pos mask h n=x:=by
 obtain⟨k,hk,e⟩:=hc (lp mask h 13).1 x (EM mask h 13) hx;obtain⟨n,a,e2⟩:=EJ mask h (13+k);refine⟨n,by unfold turns;omega,?_⟩;show(pr mask h n).j=x;rw[e2];show(lp mask h (13+k)).1=x;rw[yG,e]
def eH(mask:Nat)(h:Int)(n:Nat):pos mask h n<=mask:=by
 have key:∀n,(pr mask h n).i<=mask/\(pr mask h n).j+(pr mask h n).more<=mask:=by
  intro n;have a:∀i,i<=mask->i+(runEnd mask i-i)<=mask:=fun i hi=>by unfold runEnd;split<;>omega
  induction n with
  |zero=>
   have q:bits h%(mask+1)<=mask:=Nat.lt_succ_iff.mp (Nat.mod_lt _ (Nat.succ_pos _));exact⟨q,a _ q⟩
  |succ n ih=>
   show(fh mask (pr mask h n)).i<=mask/\(fh mask (pr mask h n)).j+(fh mask (pr mask h n)).more<=mask;unfold fh;split
   ·exact⟨ih.1,by show(pr mask h n).j+1+((pr mask h n).more-1)<=mask;omega⟩
   ·have q:(leap mask (pr mask h n).i (pr mask h n).perturb).1<=mask:=Nat.lt_succ_iff.mp (Nat.mod_lt _ (Nat.succ_pos _))
    exact⟨q,a _ q⟩
 have:=(key n).2;unfold pos;omega
structure Tb(t:SetTable)(hs:Array Int):Prop where
 ris:Ris t.place
 dum:t.dummies=#[]
 size:t.place.size=hs.size
 le:∀(i j:Nat),t.place[i]?=some j->j<=t.mask
 cov:ei t.mask
 odd:t.mask%2=1
 room:hs.size<=t.mask
 path:∀(k j:Nat)(h:Int),hs[k]?=some h->t.place[k]?=some j->∃n,pos t.mask h n=j/\∀m,m<n->∃k':Nat,t.place[k']?=some (pos t.mask h m)
def ej(t:SetTable)(j:Nat):Prop:=∃i:Nat,t.place[i]?=some j
section
variable{t:SetTable}{hs:Array Int}
def lb(T:Tb t hs){i j:Nat}(e:t.place[i]?=some j):t.slot j=.live i:=by
 show(if(t.place[below t.place j]?==some j)=true then Slot.live (below t.place j) else _)=_;rw[below_at T.ris e,e,if_pos (by simp)]
def J_(T:Tb t hs){j:Nat}(e:¬ej t j):t.slot j=.empty:=by
 show(if(t.place[below t.place j]?==some j)=true then Slot.live (below t.place j) else if has t.dummies j=true then Slot.dummy else Slot.empty)=_;have h1:¬(t.place[below t.place j]?==some j)=true:=by
  intro q;exact e ⟨_,eq_of_beq q⟩
 have h2:has t.dummies j=false:=by
  unfold has;rw[T.dum]
  rfl
 rw[if_neg h1,h2]
 rfl
def J'(T:Tb t hs):∃x,x<=t.mask/\¬ej t x:=by
 apply Classical.byContradiction;intro a;have all:∀x,x<=t.mask->ej t x:=fun x hx=>Classical.byContradiction fun q=>a ⟨x,hx,q⟩;have sub:Ba (t.mask+1) ⊆ t.place.toList:=fun x hx=>by
  obtain⟨i,e⟩:=all x (Nat.lt_succ_iff.mp (List.mem_range.mp hx));rw[<-AE] at e;exact Ap e
 have:=(List.nodup_range (n:=t.mask+1)).length_le_of_subset sub;rw[List.length_range,Aw,T.size] at this;have:=T.room;omega
def least{P:Nat->Prop}(n:Nat)(h:P n):∃m,m<=n/\P m/\∀k,k<m->¬P k:=by
 induction n using Nat.strongRecOn with
 |ind n ih=>
  by_cases q:∃k,k<n/\P k
  ·obtain⟨k,hk,a⟩:=q
   obtain⟨m,h1,h2,b⟩:=ih k hk a;exact⟨m,ω,h2,b⟩
  ·exact⟨n,Ag _,h,fun k hk a=>q ⟨k,hk,a⟩⟩
def yU(T:Tb t hs)(h:Int):∃ne,ne<10*turns t.mask/\¬ej t (pos t.mask h ne)/\∀m,m<ne->ej t (pos t.mask h m):=by
 obtain⟨x,hx,fx⟩:=J' T;obtain⟨n,b,e⟩:=oj T.cov h hx;obtain⟨m,h1,h2,a⟩:=least (P:=fun m=>¬ej t (pos t.mask h m)) n (by rw[e];exact fx);exact⟨m,ω,h2,fun k hk=>Classical.byContradiction fun q=>a k hk q⟩
def yW(T:Tb t hs){hashAt:Nat->Int}{h:Int}:∀(d fuel n:Nat),(∀m,n<=m->m<n+d->∃i:Nat,t.place[i]?=some (pos t.mask h m)/\hashAt i≠h)->probe.go t hashAt h (fuel+d) (pr t.mask h n)=probe.go t hashAt h fuel (pr t.mask h (n+d))
 |0,fuel,n,_=>rfl
 |d+1,fuel,n,hm=>by
  obtain⟨i,e1,e2⟩:=hm n (Ag _) ω;have es:t.slot (pr t.mask h n).j=.live i:=lb T e1;have a:=yW T d fuel (n+1) (fun m h1 h2=>hm m ω ω);rw[show fuel+(d+1)=(fuel+d)+1 from ω,show n+(d+1)=n+1+d from ω,<-a];show(match t.slot (pr t.mask h n).j with
   |.empty=>some (Met.empty (pr t.mask h n).j (pr t.mask h n).dummy)
   |.dummy=>probe.go t hashAt h (fuel+d) (t.advance {(pr t.mask h n) with dummy:=some (pr t.mask h n).j})
   |.live i=>if hashAt i==h then some (Met.candidate (pr t.mask h n).j i (t.advance (pr t.mask h n))) else probe.go t hashAt h (fuel+d) (t.advance (pr t.mask h n)))=_
  rw[es];dsimp only;rw[if_neg (by simpa using e2)]
  rfl
def probe_spec(T:Tb t hs){hashAt:Nat->Int}{h:Int}{ne n:Nat}(v:ne<10*turns t.mask)(he:¬ej t (pos t.mask h ne))(hm:∀m,m<ne->ej t (pos t.mask h m))(w:n<=ne):(t.probe hashAt h (pr t.mask h n)=some (.empty (pos t.mask h ne) none)/\∀m i,n<=m->m<ne->t.place[i]?=some (pos t.mask h m)->hashAt i≠h) \/
  ∃(N i:Nat),n<=N/\N<ne/\t.place[i]?=some (pos t.mask h N)/\hashAt i=h/\t.probe hashAt h (pr t.mask h n)=some (.candidate (pos t.mask h N) i (pr t.mask h (N+1)))/\∀m f,n<=m->m<N->t.place[f]?=some (pos t.mask h m)->hashAt f≠h:=by
 by_cases q:∃N,n<=N/\N<ne/\∃i:Nat,t.place[i]?=some (pos t.mask h N)/\hashAt i=h
 ·right
  obtain⟨p,r⟩:=q;obtain⟨N,h1,⟨h2,s,i,l,o⟩,u⟩:=least (P:=fun N=>n<=N/\N<ne/\∃i:Nat,t.place[i]?=some (pos t.mask h N)/\hashAt i=h) p r;have g:∀m f,n<=m->m<N->t.place[f]?=some (pos t.mask h m)->hashAt f≠h:=fun m f a b c d=>u m b ⟨a,ω,f,c,d⟩;refine⟨N,i,h2,s,l,o,?_,g⟩;obtain⟨fuel,hf⟩:∃fuel,10*turns t.mask=(fuel+1)+(N-n):=⟨10*turns t.mask-(N-n)-1,ω⟩;unfold SetTable.probe;rw[hf,yW T (N-n) (fuel+1) n (fun m a b=>?_),show n+(N-n)=N from ω]
  ·show(match t.slot (pr t.mask h N).j with
    |.empty=>some (Met.empty (pr t.mask h N).j (pr t.mask h N).dummy)
    |.dummy=>probe.go t hashAt h fuel (t.advance {(pr t.mask h N) with dummy:=some (pr t.mask h N).j})
    |.live i=>if hashAt i==h then some (Met.candidate (pr t.mask h N).j i (t.advance (pr t.mask h N))) else probe.go t hashAt h fuel (t.advance (pr t.mask h N)))=_
   rw[show t.slot (pr t.mask h N).j=.live i from lb T l];dsimp only;rw[if_pos (by simpa using o)]
   rfl
  ·obtain⟨f,e⟩:=hm m ω
   exact⟨f,e,g m f a ω e⟩
 ·left
  have g:∀m i,n<=m->m<ne->t.place[i]?=some (pos t.mask h m)->hashAt i≠h:=fun m i a b c d=>q ⟨m,a,b,i,c,d⟩;refine⟨?_,g⟩;obtain⟨fuel,hf⟩:∃fuel,10*turns t.mask=(fuel+1)+(ne-n):=⟨10*turns t.mask-(ne-n)-1,ω⟩;unfold SetTable.probe;rw[hf,yW T (ne-n) (fuel+1) n (fun m a b=>?_),show n+(ne-n)=ne from ω]
  ·show(match t.slot (pr t.mask h ne).j with
    |.empty=>some (Met.empty (pr t.mask h ne).j (pr t.mask h ne).dummy)
    |.dummy=>probe.go t hashAt h fuel (t.advance {(pr t.mask h ne) with dummy:=some (pr t.mask h ne).j})
    |.live i=>if hashAt i==h then some (Met.candidate (pr t.mask h ne).j i (t.advance (pr t.mask h ne))) else probe.go t hashAt h fuel (t.advance (pr t.mask h ne)))=_
   rw[show t.slot (pr t.mask h ne).j=.empty from J_ T he];dsimp only;rw[EI]
   rfl
  ·obtain⟨f,e⟩:=hm m ω
   exact⟨f,e,g m f a ω e⟩
def Ka(T:Tb t hs){h:Int}{ne k j:Nat}(he:¬ej t (pos t.mask h ne))(hk:hs[k]?=some h)(a:t.place[k]?=some j):∃N,N<ne/\pos t.mask h N=j:=by
 obtain⟨n,e,hm⟩:=T.path k j h hk a;refine⟨n,?_,e⟩;rcases Nat.lt_trichotomy n ne with q|q|q
 ·exact q
 ·subst q;exact absurd ⟨k,by rw[e];exact a⟩ he
 ·exact absurd (hm ne q) he
def EO(T:Tb t hs){h:Int}{ne:Nat}(he:¬ej t (pos t.mask h ne))(hm:∀m,m<ne->ej t (pos t.mask h m))(hr:hs.size+1<=t.mask):(t.put (pos t.mask h ne)).2<=hs.size/\(t.put (pos t.mask h ne)).1.mask=t.mask/\Tb (t.put (pos t.mask h ne)).1 (insertAt hs (t.put (pos t.mask h ne)).2 h):=by
 have s:∀i:Nat,t.place[i]?≠some (pos t.mask h ne):=fun i e=>he ⟨i,e⟩;obtain⟨f,u,v⟩:=n7 T.ris (pos t.mask h ne);have hb:below t.place (pos t.mask h ne)<=hs.size:=by rw[<-T.size];exact f
 have g:(t.put (pos t.mask h ne)).1.place=insertAt t.place (below t.place (pos t.mask h ne)) (pos t.mask h ne):=rfl;have mk:(t.put (pos t.mask h ne)).1.mask=t.mask:=rfl;have d:∀j,ej t j->∃r:Nat,(t.put (pos t.mask h ne)).1.place[r]?=some j:=fun j ⟨i,e⟩=>by
  by_cases q:i<below t.place (pos t.mask h ne)
  ·exact⟨i,by rw[g,eN _ _ _ f,if_pos q];exact e⟩
  ·exact⟨i+1,by rw[g,eN _ _ _ f,if_neg ω,if_neg ω,Nat.add_sub_cancel];exact e⟩
 refine⟨hb,mk,⟨?_,?_,?_,fun i j e=>?_,T.cov,T.odd,?_,fun k j h' e1 e2=>?_⟩⟩
 ·rw[g];exact J6 T.ris s
 ·show(if has t.dummies (pos t.mask h ne)=true then _ else t.dummies)=#[]
  rw[T.dum]
  rfl
 ·rw[g,og _ _ _ f]
  show _=(insertAt hs (below t.place (pos t.mask h ne)) h).size;rw[og _ _ _ hb,T.size]
 ·rw[g,eN _ _ _ f] at e
  rw[mk]
  by_cases o:i<below t.place (pos t.mask h ne)
  ·rw[if_pos o] at e;exact T.le _ _ e
  ·rw[if_neg o] at e
   by_cases p:i=below t.place (pos t.mask h ne)
   ·rw[if_pos p] at e;cases e;exact eH _ _ _
   ·rw[if_neg p] at e;exact T.le _ _ e
 ·show(insertAt hs (below t.place (pos t.mask h ne)) h).size<=t.mask
  rw[og _ _ _ hb];exact hr
 ·have c:(insertAt hs (below t.place (pos t.mask h ne)) h)[k]?=some h':=e1
  rw[eN _ _ _ hb] at c;rw[g,eN _ _ _ f] at e2;rw[mk]
  by_cases o:k<below t.place (pos t.mask h ne)
  ·rw[if_pos o] at c e2
   obtain⟨n,a,b⟩:=T.path k j h' c e2;exact⟨n,a,fun m l=>d _ (b m l)⟩
  ·rw[if_neg o] at c e2
   by_cases p:k=below t.place (pos t.mask h ne)
   ·rw[if_pos p] at c e2
    cases c;cases e2;exact⟨ne,rfl,fun m l=>d _ (hm m l)⟩
   ·rw[if_neg p] at c e2
    obtain⟨n,a,b⟩:=T.path (k-1) j h' c e2;exact⟨n,a,fun m l=>d _ (b m l)⟩
end
def rv(finger moves:Nat)(led:Bool):Tb (SetTable.fresh finger moves led) #[]:=
 ⟨fun i j a b h=>by simp[SetTable.fresh] at h,rfl,rfl,fun i j h=>by simp[SetTable.fresh] at h,yQ,show 7%2=1 from rfl,show 0<=7 from AK _,fun k j h e=>by simp at e⟩
def Own(owner:Array (Option Nat))(j:Nat):Prop:=∃q,owner[j]?=some (some q)
def da(mask:Nat)(h:Int):Nat->Nat
 |0=>0
 |r+1=>da mask h r+(runEnd mask (lp mask h r).1-(lp mask h r).1)+1
def Kb(mask:Nat)(h:Int){r R:Nat}(hr:r<=R):da mask h r<=da mask h R:=by
 induction hr with
 |refl=>exact Ag _
 |step _ ih=>exact AO ih (by show _<=da mask h _+_+1;omega)
def yZ(mask:Nat)(h:Int):∀r,pr mask h (da mask h r)={j:=(lp mask h r).1,more:=runEnd mask (lp mask h r).1-(lp mask h r).1,i:=(lp mask h r).1,perturb:=(lp mask h r).2,dummy:=none}
 |0=>rfl
 |r+1=>by
  show fh mask (pr mask h (da mask h r+(runEnd mask (lp mask h r).1-(lp mask h r).1)))=_;rw[ro mask h (yZ mask h r) _ (Ag _)];unfold fh;rw[if_neg (by show ¬(runEnd mask (lp mask h r).1-(lp mask h r).1-(runEnd mask (lp mask h r).1-(lp mask h r).1)>0);omega)]
  rfl
def y'{owner:Array (Option Nat)}{mask j:Nat}(hz:owner.size=mask+1)(b:j<=mask):(owner.getD j (some 0)).isNone=true↔¬Own owner j:=by
 have a:j<owner.size:=ω
 have e:owner.getD j (some 0)=owner[j]:=by simp[Array.getD,a]
 have e2:owner[j]?=some owner[j]:=getElem?_pos owner j a;rw[e];constructor
 ·intro h ⟨q,hq⟩
  rw[e2] at hq;rw[An hq] at h;cases h
 ·intro h
  cases c:owner[j] with
  |none=>rfl
  |some q=>exact absurd ⟨q,by rw[e2,c]⟩ h
def Kc{mask:Nat}{owner:Array (Option Nat)}(hz:owner.size=mask+1)(h:Int){ne R:Nat}(he:¬Own owner (pos mask h ne))(hm:∀m,m<ne->Own owner (pos mask h m))(hR:ne<=da mask h R):∀(fuel r:Nat),da mask h r<=ne->R<r+fuel->layClean.free mask owner fuel (lp mask h r).1 (lp mask h r).2=some (pos mask h ne):=by
 intro fuel
 induction fuel with
 |zero=>
  intro r h1 h2;have q:=Kb mask h (r:=R+1) (R:=r) ω;have:da mask h (R+1)=da mask h R+(runEnd mask (lp mask h R).1-(lp mask h R).1)+1:=rfl;omega
 |succ fuel ih=>
  intro r f hr;have walk:=ro mask h (yZ mask h r);have b:∀k,k<=runEnd mask (lp mask h r).1-(lp mask h r).1->pos mask h (da mask h r+k)=(lp mask h r).1+k:=fun k hk=>by
   unfold pos;rw[walk k hk]
  have d:(lp mask h r).1<=runEnd mask (lp mask h r).1:=by unfold runEnd;split<;>omega
  have a:∀k,k<=runEnd mask (lp mask h r).1-(lp mask h r).1->(lp mask h r).1+k<=mask:=fun k hk=>by rw[<-b k hk];exact eH _ _ _
  show(match (Ba (runEnd mask (lp mask h r).1+1-(lp mask h r).1)).find? (fun k=>(owner.getD ((lp mask h r).1+k) (some 0)).isNone) with
   |some k=>some ((lp mask h r).1+k)
   |none=>layClean.free mask owner fuel (leap mask (lp mask h r).1 (lp mask h r).2).1 (leap mask (lp mask h r).1 (lp mask h r).2).2)=_
  by_cases e:ne<=da mask h r+(runEnd mask (lp mask h r).1-(lp mask h r).1)
  ·have c:(Ba (runEnd mask (lp mask h r).1+1-(lp mask h r).1)).find? (fun k=>(owner.getD ((lp mask h r).1+k) (some 0)).isNone)=some (ne-da mask h r):=by
    rw[List.find?_range_eq_some];refine⟨?_,List.mem_range.mpr ω,fun k hk=>?_⟩
    ·show(owner.getD ((lp mask h r).1+(ne-da mask h r)) (some 0)).isNone=true
     rw[y' hz (a _ ω),<-b _ ω,show da mask h r+(ne-da mask h r)=ne from ω];exact he
    ·have q:¬(owner.getD ((lp mask h r).1+k) (some 0)).isNone=true:=by
      rw[y' hz (a _ ω),<-b k ω];exact fun z=>z (hm _ ω)
     rw[Bool.not_eq_true] at q;rw[q]
     rfl
   rw[c];dsimp only;rw[<-b _ ω,show da mask h r+(ne-da mask h r)=ne from ω]
  ·have c:(Ba (runEnd mask (lp mask h r).1+1-(lp mask h r).1)).find? (fun k=>(owner.getD ((lp mask h r).1+k) (some 0)).isNone)=none:=by
    rw[List.find?_eq_none];intro k hk;have hk':=List.mem_range.mp hk;rw[y' hz (a _ ω),<-b k ω];exact fun z=>z (hm _ ω)
   rw[c];dsimp only;refine ih (r+1) ?_ ω;show da mask h r+(runEnd mask (lp mask h r).1-(lp mask h r).1)+1<=ne;omega
structure Lay(mask:Nat)(ag:List Int)(owner:Array (Option Nat))(k:Nat):Prop where
 size:owner.size=mask+1
 all:∀q:Nat,q<k->∃j:Nat,owner[j]?=some (some q)
 back:∀j q:Nat,owner[j]?=some (some q)->q<k
 one:∀(i j q:Nat),owner[i]?=some (some q)->owner[j]?=some (some q)->i=j
 path:∀(j q:Nat)(h:Int),owner[j]?=some (some q)->ag[q]?=some h->∃n,pos mask h n=j/\∀m,m<n->Own owner (pos mask h m)
def Lay.room{mask:Nat}{h:List Int}{owner:Array (Option Nat)}{k:Nat}(L:Lay mask h owner k)(hk:k<=mask):∃x,x<=mask/\¬Own owner x:=by
 apply Classical.byContradiction;intro d;have all:∀x,x<=mask->∃q,q<k/\owner[x]?=some (some q):=fun x hx=>by
  have:Own owner x:=Classical.byContradiction fun q=>d ⟨x,hx,q⟩;obtain⟨q,e⟩:=this;exact⟨q,L.back x q e,e⟩
 have sub:((Ba (mask+1)).map fun x=>(owner.getD x none).getD 0) ⊆ Ba k:=fun y hy=>by
  obtain⟨x,hx,e⟩:=List.mem_map.mp hy;obtain⟨q,hq,e2⟩:=all x (Nat.lt_succ_iff.mp (List.mem_range.mp hx));rw[Array.getD_eq_getD_getElem?,e2] at e;subst e;exact List.mem_range.mpr hq
 have g:((Ba (mask+1)).map fun x=>(owner.getD x none).getD 0).Nodup:=by
  refine List.nodup_iff_pairwise_ne.mpr (List.pairwise_map.mpr ?_);refine List.Pairwise.imp_of_mem ?_ (List.nodup_iff_pairwise_ne.mp (List.nodup_range (n:=mask+1)));intro a b f hb c e;obtain⟨q,_,e1⟩:=all a (Nat.lt_succ_iff.mp (List.mem_range.mp f));obtain⟨p,_,e2⟩:=all b (Nat.lt_succ_iff.mp (List.mem_range.mp hb));simp only[Array.getD_eq_getD_getElem?,e1,e2,Option.getD_some] at e;subst e;exact c (L.one a b q e1 e2)
 have:=g.length_le_of_subset sub;rw[Ab,List.length_range,List.length_range] at this;omega
def Kd{owner:Array (Option Nat)}{mask j k:Nat}(hz:owner.size=mask+1)(a:j<=mask)(i:Nat):(owner.setIfInBounds j (some k))[i]?=if i=j then some (some k) else owner[i]?:=by
 by_cases q:i=j
 ·subst q
  rw[if_pos rfl,Array.getElem?_setIfInBounds_self_of_lt ω]
 ·rw[if_neg q,Array.getElem?_setIfInBounds_ne (Ne.symm q)]
def Lay.step{mask:Nat}{c:List Int}{owner:Array (Option Nat)}{k:Nat}{h:Int}(hc:ei mask)(L:Lay mask c owner k)(hk:k<=mask)(r:c[k]?=some h):∃j,layClean.free mask owner (turns mask) (bits h%(mask+1)) (bits h)=some j/\Lay mask c (owner.setIfInBounds j (some k)) (k+1):=by
 obtain⟨x,hx,fx⟩:=L.room hk;obtain⟨d,hd,e⟩:=hc (lp mask h 13).1 x (EM mask h 13) hx;have o:pos mask h (da mask h (13+d))=x:=by
  unfold pos;rw[yZ];show(lp mask h (13+d)).1=x;rw[yG,e]
 obtain⟨ne,h1,h2,l⟩:=least (P:=fun m=>¬Own owner (pos mask h m)) (da mask h (13+d)) (by rw[o];exact fx);have hm:∀m,m<ne->Own owner (pos mask h m):=fun m q=>Classical.byContradiction fun z=>l m q z;refine⟨pos mask h ne,Kc L.size h h2 hm h1 (turns mask) 0 (AK _) (by unfold turns;omega),?_⟩;have p:pos mask h ne<=mask:=eH _ _ _;have sg:=Kd (k:=k) L.size p;have own:∀i,Own owner i->Own (owner.setIfInBounds (pos mask h ne) (some k)) i:=fun i ⟨q,e⟩=>by
  by_cases z:i=pos mask h ne
  ·exact⟨k,by rw[sg,if_pos z]⟩
  ·exact⟨q,by rw[sg,if_neg z];exact e⟩
 refine⟨by rw[Array.size_setIfInBounds];exact L.size,fun q hq=>?_,fun j q e=>?_,fun i j q e1 e2=>?_,fun j q h' e1 e2=>?_⟩
 ·by_cases z:q=k
  ·exact⟨pos mask h ne,by rw[sg,if_pos rfl,z]⟩
  ·obtain⟨j,f⟩:=L.all q ω
   refine⟨j,?_⟩;rw[sg,if_neg fun w=>h2 ⟨q,by rw[<-w];exact f⟩];exact f
 ·rw[sg] at e
  by_cases z:j=pos mask h ne
  ·rw[if_pos z] at e;cases e;omega
  ·rw[if_neg z] at e;have:=L.back j q e;omega
 ·rw[sg] at e1 e2
  by_cases g:i=pos mask h ne
  ·rw[if_pos g] at e1;cases e1
   by_cases z2:j=pos mask h ne
   ·omega
   ·rw[if_neg z2] at e2;have:=L.back j k e2;omega
  ·rw[if_neg g] at e1
   by_cases z2:j=pos mask h ne
   ·rw[if_pos z2] at e2;cases e2;have:=L.back i k e1;omega
   ·rw[if_neg z2] at e2;exact L.one i j q e1 e2
 ·rw[sg] at e1
  by_cases z:j=pos mask h ne
  ·rw[if_pos z] at e1;cases e1
   rw[r] at e2;cases e2;exact⟨ne,z.symm,fun m q=>own _ (hm m q)⟩
  ·rw[if_neg z] at e1
   obtain⟨n,a,b⟩:=L.path j q h' e1 e2;exact⟨n,a,fun m q=>own _ (b m q)⟩
def Lay.nil(mask:Nat)(b:List Int):Lay mask b (Array.replicate (mask+1) none) 0:=by
 have a:∀(j q:Nat),(Array.replicate (mask+1) (none:Option Nat))[j]?=some (some q)->False:=fun j q e=>by
  rw[Array.getElem?_replicate] at e;split at e<;>cases e
 exact⟨by simp,fun q h=>absurd h (Nat.not_lt_zero _),fun j q e=>(a j q e).elim,fun i j q e=>(a i q e).elim,fun j q h e=>(a j q e).elim⟩
def Ke{mask:Nat}(hc:ei mask)(c:Array Int)(hk:c.size<=mask+1):∃owner,layClean mask c=some owner/\Lay mask c.toList owner c.size:=by
 have go:∀(rest:List Int)(owner:Array (Option Nat))(k:Nat),Lay mask c.toList owner k->c.toList.drop k=rest->
   ∃f,(rest.foldl (fun acc h=>do
    let (owner,k) <-acc
    let j <-layClean.free mask owner (turns mask) (bits h%(mask+1)) (bits h)
    pure (owner.setIfInBounds j (some k),k+1)) (some (owner,k)))=some (f,k+rest.length)/\Lay mask c.toList f (k+rest.length):=by
  intro rest
  induction rest with
  |nil=>intro owner k L _;exact⟨owner,rfl,L⟩
  |cons h rest ih=>
   intro owner k L e;have d:k<c.toList.length:=by
    rcases Nat.lt_or_ge k c.toList.length with q|q
    ·exact q
    ·rw[List.drop_eq_nil_of_le q] at e;cases e
   have i:c.toList[k]?=some h:=by
    rw[List.drop_eq_getElem_cons d] at e;injection e with e1 _
    rw[Af d,e1]
   have l:c.toList.drop (k+1)=rest:=by
    rw[List.drop_eq_getElem_cons d] at e;injection e
   rw[Aw] at d;obtain⟨j,g,p⟩:=L.step hc ω i;obtain⟨o',a,b⟩:=ih (owner.setIfInBounds j (some k)) (k+1) p l;refine⟨o',?_,?_⟩
   ·rw[List.foldl_cons]
    show List.foldl _ (layClean.free mask owner (turns mask) (bits h%(mask+1)) (bits h) >>= fun j=>pure (owner.setIfInBounds j (some k),k+1)) rest=_;rw[g];show List.foldl _ (some (owner.setIfInBounds j (some k),k+1)) rest=_;rw[a,Au,show k+1+rest.length=k+(rest.length+1) from ω]
   ·rw[Au,show k+(rest.length+1)=k+1+rest.length from ω]
    exact b
 obtain⟨o,a,b⟩:=go c.toList _ 0 (Lay.nil mask _) rfl;rw[Nat.zero_add,Aw] at a b;refine⟨o,?_,b⟩;unfold layClean;rw[<-Array.foldl_toList,a]
 rfl
def cU(owner:Array (Option Nat))(n:Nat):List (Nat×Nat):=(Ba n).filterMap fun j=>(owner.getD j none).map (j,·)
def ju{owner:Array (Option Nat)}{n:Nat}{x:Nat×Nat}:x∈cU owner n↔x.1<n/\owner[x.1]?=some (some x.2):=by
 unfold cU;rw[List.mem_filterMap];constructor
 ·rintro⟨j,a,e⟩
  rw[Option.map_eq_some_iff] at e;obtain⟨q,e1,rfl⟩:=e;refine⟨List.mem_range.mp a,?_⟩;rw[Array.getD_eq_getD_getElem?] at e1;cases c:owner[j]? with
  |none=>rw[c] at e1;cases e1
  |some v=>rw[c] at e1;simp only[Option.getD_some] at e1;rw[e1]
 ·rintro⟨h1,h2⟩
  refine⟨x.1,List.mem_range.mpr h1,?_⟩;rw[Array.getD_eq_getD_getElem?,h2]
  rfl
def EQ(owner:Array (Option Nat))(n:Nat):(cU owner n).Pairwise fun x y=>x.1<y.1:=by
 unfold cU;refine List.Pairwise.filterMap (S:=fun x y:Nat×Nat=>x.1<y.1) _ ?_ (List.pairwise_lt_range (n:=n));intro a d h b hb e c;rw[Option.map_eq_some_iff] at hb c;obtain⟨_,_,rfl⟩:=hb;obtain⟨_,_,rfl⟩:=c;exact h
def Kf{mask:Nat}{r:List Int}{owner:Array (Option Nat)}{k:Nat}(L:Lay mask r owner k):(cU owner (mask+1)).length=k/\((cU owner (mask+1)).map (·.2)).Nodup:=by
 have d:((cU owner (mask+1)).map (·.2)).Nodup:=by
  refine List.nodup_iff_pairwise_ne.mpr (List.pairwise_map.mpr ?_);refine List.Pairwise.imp_of_mem ?_ (EQ owner (mask+1));intro a b f hb g e;have h1:=(ju.mp f).2;have h2:=(ju.mp hb).2;rw[<-e] at h2;have:=L.one _ _ _ h1 h2;omega
 refine⟨?_,d⟩;have h:(cU owner (mask+1)).map (·.2) ⊆ Ba k:=fun q hq=>by
  obtain⟨x,hx,rfl⟩:=List.mem_map.mp hq;exact List.mem_range.mpr (L.back _ _ (ju.mp hx).2)
 have i:Ba k ⊆ (cU owner (mask+1)).map (·.2):=fun q hq=>by
  obtain⟨j,c⟩:=L.all q (List.mem_range.mp hq);have l:j<mask+1:=by rw[<-L.size];exact(Array.getElem?_eq_some_iff.mp c).1
  exact List.mem_map.mpr ⟨(j,q),ju.mpr ⟨l,c⟩,rfl⟩
 have o:=d.length_le_of_subset h;have p:=(List.nodup_range (n:=k)).length_le_of_subset i;rw[Ab,List.length_range] at o;rw[List.length_range,Ab] at p;omega
def ER{mask:Nat}(hc:ei mask)(H:mask%2=1)(finger moves:Nat)(led plain:Bool)(c:Array Int)(hk:c.size<=mask):∃t d,laid mask finger moves led plain c=some (t,d)/\t.mask=mask/\t.led=led/\t.plain=plain/\d.size=c.size/\d.toList.Nodup/\(∀q∈d.toList,q<c.size)/\
   Tb t (d.map fun q=>(c[q]?).getD 0):=by
 obtain⟨owner,e,L⟩:=Ke hc c ω;obtain⟨u,w⟩:=Kf L;refine⟨_,_,by unfold laid;rw[e];exact rfl,rfl,rfl,rfl,?_,?_,?_,?_⟩
 ·show((cU owner (mask+1)).map (·.2)).toArray.size=_
  rw[Aj,Ab,u]
 ·exact w
 ·intro q hq
  obtain⟨x,hx,rfl⟩:=List.mem_map.mp (show q∈(cU owner (mask+1)).map (·.2) from hq);exact L.back _ _ (ju.mp hx).2
 ·have f:∀i:Nat,(((cU owner (mask+1)).map (·.1)).toArray)[i]?=((cU owner (mask+1))[i]?).map (·.1):=fun i=>by
   rw[List.getElem?_toArray,Ai]
  have C:∀i:Nat,(((cU owner (mask+1)).map (·.2)).toArray)[i]?=((cU owner (mask+1))[i]?).map (·.2):=fun i=>by
   rw[List.getElem?_toArray,Ai]
  have p:∀j,Own owner j->∃i:Nat,(((cU owner (mask+1)).map (·.1)).toArray)[i]?=some j:=fun j ⟨q,g⟩=>by
   have o:j<mask+1:=by rw[<-L.size];exact(Array.getElem?_eq_some_iff.mp g).1
   obtain⟨i,hi,z⟩:=List.mem_iff_getElem.mp (ju.mpr ⟨o,g⟩:(j,q)∈cU owner (mask+1));exact⟨i,by rw[f,Af hi,z];rfl⟩
  refine⟨fun i j a b v hb l=>?_,rfl,?_,fun i j g=>?_,hc,H,?_,fun k j h e1 e2=>?_⟩
  ·have D:((cU owner (mask+1))[i]?).map (·.1)=some a:=by rw[<-f];exact v
   have r:((cU owner (mask+1))[j]?).map (·.1)=some b:=by rw[<-f];exact hb
   obtain⟨x,ex,rfl⟩:=Option.map_eq_some_iff.mp D;obtain⟨y,A,rfl⟩:=Option.map_eq_some_iff.mp r;obtain⟨hi,rfl⟩:=List.getElem?_eq_some_iff.mp ex;obtain⟨o,rfl⟩:=List.getElem?_eq_some_iff.mp A;exact List.pairwise_iff_getElem.mp (EQ owner (mask+1)) i j hi o l
  ·show((cU owner (mask+1)).map (·.1)).toArray.size=(Array.map _ ((cU owner (mask+1)).map (·.2)).toArray).size
   rw[AY,Aj,Aj,Ab,Ab]
  ·have E:((cU owner (mask+1))[i]?).map (·.1)=some j:=by rw[<-f];exact g
   obtain⟨x,ex,rfl⟩:=Option.map_eq_some_iff.mp E;exact Nat.lt_succ_iff.mp (ju.mp (Ap ex)).1
  ·show(Array.map _ ((cU owner (mask+1)).map (·.2)).toArray).size<=mask
   rw[AY,Aj,Ab,u];exact hk
  ·have F:((cU owner (mask+1))[k]?).map (·.1)=some j:=by rw[<-f];exact e2
   obtain⟨x,ex,rfl⟩:=Option.map_eq_some_iff.mp F;have s:(Array.map (fun q=>(c[q]?).getD 0) ((cU owner (mask+1)).map (·.2)).toArray)[k]?=some h:=e1;rw[Array.getElem?_map,C,ex] at s;have hx:=(ju.mp (Ap ex)).2;have hq:=L.back _ _ hx;have G:c.toList[x.2]?=some h:=by
    rw[AE];have:c[x.2]?=some c[x.2]:=getElem?_pos c x.2 hq;simp only[A6,this,Option.getD_some] at s;rw[this,An s]
   obtain⟨n,a,b⟩:=L.path x.1 x.2 h hx G;exact⟨n,a,fun m hm=>p _ (b m hm)⟩
section
variable{prog:Program}{w:World}{K:Type}[DecidableEq K]{knd:KeyKind prog w K}{A:Around}{E:Ω}{s:Shared}
def fits_of{t:SetTable}{es:Array (Int×Value)}(T:Tb t (es.map (·.1))):t.fits es.size=true:=by
 have h1:=T.size;have h2:=T.room;rw[AY] at h1 h2;unfold SetTable.fits SetTable.fill;rw[T.dum,h1];simp;exact h2
def Kg(n:Nat){v:Value}(h:carriedByValue v=true):ofAClassStatement n v=pure false:=by
 cases v with
 |ref a=>simp[carriedByValue] at h
 |_=>cases n<;>rfl
def ES{ks:List K}{b:Addr}{Q:Bool->Shared->Prop}(hk:AI knd s.heap ks b)(h:Q false s):wpAny (model prog w) A (ofAClassStatement 8 (.ref b)) Q E s:=by
 have hT:=hk.typeIs;obtain⟨o,d,n,e,_,hd,hi⟩:=hk;unfold ofAClassStatement;refine Aa (wpAny_typeOf hT ?_);show wpAny _ _ ((if("tuple" == "tuple")=true then pure true else isSubtype (.type "tuple") (.type "tuple")) >>= _) _ _ s;rw[if_pos ξ];refine Aa (Ac ?_);simp only[A3,Ah,if_false];refine Aa (wpAny_seqItems e hd ?_);refine Aa ?_;show wpAny _ _ (forIn d _ _) _ _ s;rw[<-Array.forIn_toList];refine wpAny_forIn_list _ (fun rest r s'=>r.1=none/\s'=s/\∀v∈rest,carriedByValue v=true) _ ?_ ?_ _ _ ⟨rfl,rfl,hi.byValue⟩
 ·rintro v rest r s' ⟨hr,rfl,a⟩
  rw[Kg _ (a v Av)];refine Aa (Ac ?_);simp only[Ah,if_false];exact Ac ⟨rfl,rfl,fun u c=>a u (Ay _ c)⟩
 ·rintro⟨f,g⟩ s' ⟨hr,rfl,_⟩
  simp only at hr;subst hr;exact Ac h
def Kh{ks:List K}{b:Addr}{ys:List Value}{Q:Bool->Shared->Prop}(hk:AI knd s.heap ks b)(hy:∀y∈ys,∃d c,y=.ref c/\AI knd s.heap d c)(h:Q false s):wpAny (model prog w) A (searchCouldBeSeen (.ref b) ys) Q E s:=by
 unfold searchCouldBeSeen;refine Aa ?_;refine wpAny_forIn_list _ (fun rest r s'=>r.1=none/\s'=s/\∀y∈rest,∃d c,y=.ref c/\AI knd s.heap d c) _ ?_ ?_ _ _ ⟨rfl,rfl,hy⟩
 ·rintro v rest r s' ⟨hr,rfl,a⟩
  obtain⟨d,c,rfl,hc⟩:=a v Av;have nx:∀u∈rest,∃d c,u=.ref c/\AI knd s'.heap d c:=fun u e=>a u (Ay _ e);dsimp only;split
  ·exact Ac ⟨rfl,rfl,nx⟩
  ·refine Aa (wpAny_eqIsQuiet_tuple hk ?_)
   simp only[A3,Ah,if_false];refine Aa (wpAny_eqIsQuiet_tuple hc ?_);simp only[A3,Ah,if_false];refine Aa (ES hk ?_);simp only[Ah,if_false];refine Aa (ES hc ?_);simp only[Ah,if_false];exact Ac ⟨rfl,rfl,nx⟩
 ·rintro⟨f,g⟩ s' ⟨hr,rfl,_⟩
  simp only at hr;subst hr;exact Ac h
structure TS(knd:KeyKind prog w K)(h:Heap)(S:Addr)(o:Obj)(es:Array (Int×Value))(ep:Nat)(t:SetTable)(ks:List (List K))(B:List Addr):Prop where
 at_:h.get? S=some o
 ex:o.ExactSet
 dt:o.data=.set es ep t
 tb:Tb t (es.map (·.1))
 sz:es.size=ks.length
 nd:ks.Nodup
 el:∀e∈es.toList,∃k b,k∈ks/\e=(Ar knd k,Value.ref b)/\AI knd h k b
 ke:∀k∈ks,∃b,(Ar knd k,Value.ref b)∈es.toList/\AI knd h k b
 msk:(t.mask=7/\es.size<=4)\/(t.mask=31/\es.size<=18)\/(t.mask=127/\es.size<=76)\/(t.mask=15/\es.size<=8)\/(t.mask=63/\es.size<=37)\/(t.mask=255/\es.size<=152)
 ad:∀e∈es.toList,∃b∈B,e.2=Value.ref b
 wk:w.params.followText "set-order"=true\/(t.led=true/\t.plain=true)
def ET{B:List Addr}{S:Addr}{o:Obj}{es:Array (Int×Value)}{ep:Nat}{t:SetTable}{ks:List (List K)}(X:TS knd s.heap S o es ep t ks B)(hu:A.units<cLine){k:List K}{b:Addr}(hk:AI knd s.heap k b){ne:Nat}(F:ne<10*turns t.mask)(he:¬ej t (pos t.mask (Ar knd k) ne))(hm:∀m,m<ne->ej t (pos t.mask (Ar knd k) m)){add:Bool}{Q:SetFound->Shared->Prop}(h1:k∈ks->∀r:Option Nat,(add=false->r.isSome=true)->Q (.there r) s)(h2:k∉ks->Q (.free (pos t.mask (Ar knd k) ne) false) s):∀(fuel n:Nat)(f:Option Probe),ne<n+fuel->n<=ne->f.getD (t.probeStart (Ar knd k))=pr t.mask (Ar knd k) n->
   (∀(m i:Nat)(c:Addr),m<n->t.place[i]?=some (pos t.mask (Ar knd k) m)->es[i]?=some (Ar knd k,Value.ref c)->¬AI knd s.heap k c)->
   wpAny (model prog w) A (setSearchFrom S (.ref b) (Ar knd k) add fuel f) Q E s:=by
 have T:=X.tb;have v:=fits_of T;have Z:∀i:Nat,(es.map (·.1))[i]?=(es[i]?).map (·.1):=fun i=>Array.getElem?_map ..;intro fuel
 induction fuel with
 |zero=>intro n f L G _ _;omega
 |succ fuel ih=>
  intro n f L G M H;unfold setSearchFrom;refine Aa (AZ X.at_ X.dt v ?_);dsimp only;have gw:t.gaveWay=false:=by
   unfold SetTable.gaveWay;rw[T.odd]
   rfl
  rw[gw];simp only[Ah,if_false];rw[M];rcases probe_spec T (hashAt:=fun i=>((es[i]?).map (·.1)).getD 0) F he hm G with ⟨df,none_⟩|⟨N,i,b1,b2,b3,b4,b5,b6⟩
  ·have nM:t.probe (fun i=>((es[i]?).map (·.1)).getD 0) (Ar knd k) (pr t.mask (Ar knd k) n)=some (.empty (pos t.mask (Ar knd k) ne) none):=df
   show wpAny _ _ (match t.probe (fun i=>((es[i]?).map (·.1)).getD 0) (Ar knd k) (pr t.mask (Ar knd k) n) with|some met=>_|_=>_) _ _ s;rw[nM];dsimp only;refine Ac (h2 fun l=>?_);obtain⟨c,O,P⟩:=X.ke k l;obtain⟨i,hi,a⟩:=List.mem_iff_getElem.mp O;have x:es[i]?=some (Ar knd k,.ref c):=by
    rw[<-AE,Af hi,a]
   have C:i<t.place.size:=by rw[T.size,AY];simpa using hi
   have D:t.place[i]?=some t.place[i]:=getElem?_pos t.place i C;obtain⟨N,U,J⟩:=Ka T he (k:=i) (by rw[Z,x];rfl) D;rcases Nat.lt_or_ge N n with q|q
   ·exact H N i c q (by rw[J];exact D) x P
   ·exact none_ N i q U (by rw[J];exact D) (by show((es[i]?).map (·.1)).getD 0=_;rw[x];rfl)
  ·show wpAny _ _ (match t.probe (fun i=>((es[i]?).map (·.1)).getD 0) (Ar knd k) (pr t.mask (Ar knd k) n) with|some met=>_|_=>_) _ _ s
   rw[b5];dsimp only;have hi:i<es.size:=by
    have:=(Array.getElem?_eq_some_iff.mp b3).1;rw[T.size,AY] at this;exact this
   have a:es[i]?=some es[i]:=getElem?_pos es i hi;obtain⟨h,c,hk',W,hc⟩:=X.el es[i] (by simp);rw[W] at a;have eh:Ar knd h=Ar knd k:=by
    have:((es[i]?).map (·.1)).getD 0=Ar knd k:=b4;rw[a] at this;exact this
   rw[eh] at a;have j:t.sameMemory t.moves t.mask=some true:=by unfold SetTable.sameMemory;rw[if_pos (by simp)]
   have d:h≠k->wpAny (model prog w) A (setSearchFrom S (.ref b) (Ar knd k) add fuel (some (pr t.mask (Ar knd k) (N+1)))) Q E s:=fun eq=>by
    refine ih (N+1) _ ω ω rfl fun m i2 p q1 u g I=>?_;rcases Nat.lt_or_ge m n with z|z
    ·exact H m i2 p z u g I
    ·rcases Nat.lt_or_ge m N with z2|z2
     ·exact b6 m i2 z z2 u (by show((es[i2]?).map (·.1)).getD 0=_;rw[g];rfl)
     ·have:m=N:=ω
      subst this;have:=T.ris.inj u b3;subst this;rw[a] at g;cases g;exact eq (IsTupleKey.inj hc I)
   cases led:t.led
   all_goals simp only[A3,Bool.not_false,Ah,if_true,if_false]
   ·refine Aa (Kh hk (fun y hy=>?_) ?_)
    ·obtain⟨e,he',rfl⟩:=List.mem_map.mp hy
     rw[Array.toList_filter] at he';obtain⟨k2,p,_,e2,Y⟩:=X.el e (List.mem_filter.mp he').1;exact⟨k2,p,by rw[e2],Y⟩
    simp only[Ah,if_false];rw[a];refine Aa (AA (wpAny_eqBool_tuple hu hc hk ?_));refine Aa (AZ X.at_ X.dt v ?_)
    by_cases eq:h=k
    ·subst eq
     cases add
     ·simp only[decide_true,Bool.false_and,Ah,if_false]
      rw[j];simp only[if_true];rw[lb T b3];dsimp only;rw[a];refine Aa (wpAny_isSame_ref_self (Aa (Ac ?_)));simp only[if_true];exact Ac (h1 hk' _ fun _=>rfl)
     ·simp only[decide_true,Bool.and_self,if_true]
      exact Ac (h1 hk' _ fun z=>by cases z)
    ·rw[decide_eq_false eq]
     simp only[Bool.and_false,Ah,if_false];rw[j];simp only[if_true];rw[lb T b3];dsimp only;rw[a];refine Aa (wpAny_isSame_ref_self (Aa (Ac ?_)));simp only[if_true];exact d eq
   ·rw[a]
    refine Aa (AA (wpAny_eqBool_tuple hu hc hk ?_));refine Aa (AZ X.at_ X.dt v ?_)
    by_cases eq:h=k
    ·subst eq
     cases add
     ·simp only[decide_true,Bool.false_and,Ah,if_false]
      rw[j];simp only[if_true];rw[lb T b3];dsimp only;rw[a];refine Aa (wpAny_isSame_ref_self (Aa (Ac ?_)));simp only[if_true];exact Ac (h1 hk' _ fun _=>rfl)
     ·simp only[decide_true,Bool.and_self,if_true]
      exact Ac (h1 hk' _ fun z=>by cases z)
    ·rw[decide_eq_false eq]
     simp only[Bool.and_false,Ah,if_false];rw[j];simp only[if_true];rw[lb T b3];dsimp only;rw[a];refine Aa (wpAny_isSame_ref_self (Aa (Ac ?_)));simp only[if_true];exact d eq
def iJ{h h':Heap}{S b:Addr}{k:List K}{o:Obj}{es ep t}(hk:AI knd h k b)(f:h.get? S=some o)(hd:o.data=.set es ep t)(hs:AQ S h h'):AI knd h' k b:=by
 obtain⟨o',e,n,c,hc,a,hi⟩:=hk;have d:b≠S:=by
  rintro rfl;obtain rfl:o'=o:=An (c.symm.trans f);rw[hd] at a;exact nomatch a
 exact⟨o',e,n,(hs.2 b d).trans c,hc,a,hi⟩
def Ki{ks:List K}{b:Addr}{Q:Bool->Shared->Prop}(f:∀k v n,knd.is k v=true->hashByValue n v=pure true)(hk:AI knd s.heap ks b)(h:Q true s):wpAny (model prog w) A (hashByValue 8 (.ref b)) Q E s:=by
 have hT:=hk.typeIs;obtain⟨o,d,n,e,_,hd,hi⟩:=hk;unfold hashByValue;refine Aa (wpAny_specialOf hT F.slot_tuple_hash.lookup ?_);dsimp only;refine Aa (wpAny_seqItems e hd ?_);refine Aa ?_;show wpAny _ _ (forIn d _ _) _ _ s;rw[<-Array.forIn_toList];refine wpAny_forIn_list _ (fun rest r s'=>r.1=none/\s'=s/\∃c,ItemsAre knd c rest) _ ?_ ?_ _ _ ⟨rfl,rfl,ks,hi⟩
 ·rintro v rest r s' ⟨hr,rfl,c,a⟩
  cases a with
  |@cons k _ ks'' _ h1 h2=>
   rw[f k v 7 h1];refine Aa (Ac ?_);simp only[A3,Ah,if_false];exact Ac ⟨rfl,rfl,ks'',h2⟩
 ·rintro⟨g,i⟩ s' ⟨hr,rfl,_⟩
  simp only at hr;subst hr;exact Ac h
def rx{h:Heap}{S:Addr}{o:Obj}{es:Array (Int×Value)}{ep:Nat}{t:SetTable}{es':Array (Int×Value)}{t':SetTable}(a:h.get? S=some o)(hd:o.data=.set es ep t):(h.update S (Obj.putSet es' t')).get? S=some {o with data:=.set es' (ep+1) t'}:=by
 have:=A5 (Obj.putSet es' t') a (by rw[putSet_of es' t' hd];rfl);rw[putSet_of es' t' hd] at this;exact this
def zc{b:Type}{es:Array b}:∀{l:List Nat},(∀q∈l,q<es.size)->∃a:List b,l.filterMap (es[·]?)=a/\a.length=l.length/\(∀x∈a,x∈es.toList)/\(∀(i q:Nat),l[i]?=some q->a[i]?=es[q]?)
 |[],_=>⟨[],rfl,rfl,(fun x hx=>by cases hx),(fun i q e=>by cases i<;>simp at e)⟩
 |q::l,h=>by
  obtain⟨a,e1,e2,e3,c⟩:=zc (l:=l) fun x hx=>h x (Ay _ hx);have hq:=h q Av;refine⟨es[q]::a,?_,by rw[Au,Au,e2],fun x hx=>?_,fun i p e=>?_⟩
  ·rw[List.filterMap_cons,getElem?_pos es q hq,e1]
  ·rcases List.mem_cons.mp hx with rfl|hx
   ·simp
   ·exact e3 x hx
  ·cases i with
   |zero=>simp at e;subst e;simp[getElem?_pos es q hq]
   |succ i=>simp at e ⊢;exact c i p e
def EU{B:List Addr}{S:Addr}{o:Obj}{es:Array (Int×Value)}{ep:Nat}{t:SetTable}{ks:List (List K)}{want m2:Nat}(f:s.heap.get? S=some o)(hex:o.ExactSet)(hd:o.data=.set es ep t)(T:Tb t (es.map (·.1)))(hsz:es.size=ks.length)(P:ks.Nodup)(ad:∀e∈es.toList,∃b∈B,e.2=Value.ref b)(U:∀e∈es.toList,∃k b,k∈ks/\e=(Ar knd k,Value.ref b)/\AI knd s.heap k b)(W:∀k∈ks,∃b,(Ar knd k,Value.ref b)∈es.toList/\AI knd s.heap k b)(hw:SetTable.sizeAbove want-1=m2)(X:SetTable.sizeAbove want<=sizeLine)(hc:ei m2)(Y:m2%2=1)(hr:es.size<=m2)(hz:es.size<=1000)(Z:(m2=7/\es.size<=4)\/(m2=31/\es.size<=18)\/(m2=127/\es.size<=76)\/(m2=15/\es.size<=8)\/(m2=63/\es.size<=37)\/(m2=255/\es.size<=152))(wk:w.params.followText "set-order"=true\/(t.led=true/\t.plain=true)){Q:Unit->Shared->Prop}(h:∀h' o' es' G t',TS knd h' S o' es' G t' ks B->AQ S s.heap h'->Q () {s with heap:=h'}):wpAny (model prog w) A (setRelay S want) Q E s:=by
 have N:=fits_of T;unfold setRelay;refine Aa (AZ f hd N ?_);dsimp only;rw[if_neg (Nat.not_lt.mpr X)];obtain⟨d,a,e1,e2,e3,H,l,I,g,J⟩:=ER hc Y t.finger (t.movedTo m2) t.led t.plain (es.map (·.1)) (by rw[AY];exact hr);have O:t.relaid (es.map (·.1)) want=some (d,a):=by
  unfold SetTable.relaid;rw[hw];exact e1
 rw[AY] at l g;obtain⟨c,f1,f2,f3,f4⟩:=zc (es:=es) g;have D:a.filterMap (es[·]?)=c.toArray:=by
  apply Array.toList_inj.mp;rw[Array.toList_filterMap,f1]
 have j:c.length=es.size:=by rw[f2,Aw,l]
 rw[O];refine Aa ?_;show wpAny _ _ (ite (((a.filterMap (es[·]?)).size != es.size)=true) _ _) _ _ _;rw[if_neg (by rw[D,Aj,j];simp),D];refine Ac ?_;dsimp only;have v:(c.toArray.map (·.1))=a.map fun q=>((es.map (·.1))[q]?).getD 0:=by
  apply Array.ext_getElem?;intro i;rw[Array.getElem?_map,Array.getElem?_map,List.getElem?_toArray];cases q:a[i]? with
  |none=>
   have:a.toList.length<=i:=by rw[Aw];exact Array.getElem?_eq_none_iff.mp q
   rw[List.getElem?_eq_none ω]
   rfl
  |some p=>
   have e:=f4 i p (by rw[AE];exact q);have hp:=g p (by rw[<-AE] at q;exact Ap q);rw[e,getElem?_pos es p hp];simp[hp]
 have T2:Tb d (c.toArray.map (·.1)):=by rw[v];exact J
 have y:∀q,q<es.size->q∈a.toList:=fun q hq=>Classical.byContradiction fun z=>by
  have C:(q::a.toList).Nodup:=List.nodup_cons.mpr ⟨z,I⟩;have sub:(q::a.toList) ⊆ Ba es.size:=fun x hx=>by
   rcases List.mem_cons.mp hx with rfl|hx
   ·exact List.mem_range.mpr hq
   ·exact List.mem_range.mpr (g x hx)
  have:=C.length_le_of_subset sub;rw[Au,Aw,l,List.length_range] at this;omega
 refine wpAny_storeSet_of f hd ?_ (by rw[Aj,j,sizeLine_eq];omega);refine h _ {o with data:=.set c.toArray (ep+1) d} c.toArray (ep+1) d ?_ (AL ..);have F:AQ S s.heap (s.heap.update S (Obj.putSet c.toArray d)):=AL ..;refine⟨rx f hd,hex,rfl,T2,by rw[Aj,j];exact hsz,P,fun e he=>?_,fun k hk=>?_,?_,fun e he=>ad e (f3 e he),by rw[e3,H];exact wk⟩
 ·obtain⟨k,b,r,u,L⟩:=U e (f3 e he)
  exact⟨k,b,r,u,iJ L f hd F⟩
 ·obtain⟨b,r,u⟩:=W k hk
  refine⟨b,?_,iJ u f hd F⟩;obtain⟨q,hq,eq⟩:=List.mem_iff_getElem.mp r;rw[Aw] at hq;obtain⟨i,hi,M⟩:=List.mem_iff_getElem.mp (y q hq);have e:=f4 i q (by rw[Af hi,M]);refine Ap (i:=i) ?_;rw[e,<-eq];simp[hq]
 ·rw[e2,Aj,j]
  exact Z
def ins_map{a b:Type}(f:a->b)(xs:Array a)(p:Nat)(x:a)(hp:p<=xs.size):(insertAt xs p x).map f=insertAt (xs.map f) p (f x):=by
 apply Array.ext_getElem?;intro i;rw[Array.getElem?_map,eN _ _ _ hp,eN _ _ _ (by rw[AY];exact hp),Array.getElem?_map,Array.getElem?_map]
 by_cases h1:i<p
 ·rw[if_pos h1,if_pos h1]
 ·rw[if_neg h1,if_neg h1]
  by_cases h2:i=p
  ·rw[if_pos h2,if_pos h2];rfl
  ·rw[if_neg h2,if_neg h2]
def ins_mem{a:Type}{xs:Array a}{p:Nat}{x y:a}(hp:p<=xs.size):y∈(insertAt xs p x).toList↔y=x\/y∈xs.toList:=by
 constructor
 ·intro h
  obtain⟨i,hi,e⟩:=List.mem_iff_getElem.mp h;have e2:(insertAt xs p x)[i]?=some y:=by rw[<-AE,Af hi,e]
  rw[eN _ _ _ hp] at e2
  by_cases h1:i<p
  ·rw[if_pos h1,<-AE] at e2;exact .inr (Ap e2)
  ·rw[if_neg h1] at e2
   by_cases h2:i=p
   ·rw[if_pos h2] at e2;exact .inl (An e2).symm
   ·rw[if_neg h2,<-AE] at e2;exact .inr (Ap e2)
 ·rintro(rfl|h)
  ·refine Ap (i:=p) ?_
   rw[AE,eN _ _ _ hp,if_neg (Nat.lt_irrefl _),if_pos rfl]
  ·obtain⟨i,hi,e⟩:=List.mem_iff_getElem.mp h
   have e2:xs[i]?=some y:=by rw[<-AE,Af hi,e]
   by_cases h1:i<p
   ·refine Ap (i:=i) ?_
    rw[AE,eN _ _ _ hp,if_pos h1];exact e2
   ·refine Ap (i:=i+1) ?_
    rw[AE,eN _ _ _ hp,if_neg ω,if_neg ω,Nat.add_sub_cancel];exact e2
def zz{B:List Addr}{S:Addr}{o:Obj}{es:Array (Int×Value)}{ep:Nat}{t:SetTable}{ks:List (List K)}(X:TS knd s.heap S o es ep t ks B)(hu:A.units<cLine)(hv:∀k v n,knd.is k v=true->hashByValue n v=pure true){k:List K}{b:Addr}(hk:AI knd s.heap k b)(jB:b∈B)(hn:ks.length<60){Q:Bool->Shared->Prop}(h:∀(r:Bool) h' o' es' aR t',TS knd h' S o' es' aR t' (if k∈ks then ks else ks++[k]) B->AQ S s.heap h'->Q r {s with heap:=h'}):wpAny (model prog w) A (setAddHashed S (.ref b) (Ar knd k)) Q E s:=by
 unfold setAddHashed;refine AA ?_;have T:=X.tb;have bQ:=fits_of T;have X':TS knd s.heap S o es ep t ks B:=X;unfold setAddHashedIn;refine Aa (AZ (s:=s) X.at_ X.dt bQ ?_);dsimp only;have nb:byScan (.ref b) es=false:=rfl;rw[nb];simp only[Ah,if_false];obtain⟨ne,G,he,hm⟩:=yU T (Ar knd k);refine Aa ?_;unfold setSearch;refine ET (s:=s) X' hu hk G he hm (fun P r0 _=>?_) (fun bA=>?_) 100000 0 none ?_ (AK _) rfl (fun m i c fA=>absurd fA (Nat.not_lt_zero _))
 ·dsimp only
  refine Ac (h false s.heap o es ep t ?_ (Heap.SameBut.refl ..));rw[if_pos P];exact X
 ·dsimp only
  refine Aa (AZ (s:=s) X.at_ X.dt bQ ?_);dsimp only;have cI:(es.map (·.1)).size+1<=t.mask:=by
   rw[AY];rcases X.msk with ⟨a,b⟩|⟨a,b⟩|⟨a,b⟩|⟨a,b⟩|⟨a,b⟩|⟨a,b⟩<;>omega
  obtain⟨p1,p2,p3⟩:=EO T he hm cI;rw[AY] at p1;obtain⟨j,p,dh⟩:∃j p,t.put (pos t.mask (Ar knd k) ne)=(j,p):=⟨_,_,rfl⟩;rw[dh] at p1 p2 p3 ⊢;dsimp only at p1 p2 p3 ⊢;have Z:k∉ks:=bA;have F:(insertAt es p (Ar knd k,Value.ref b)).size=es.size+1:=og _ _ _ p1;have H:=X.sz;have cL:es.size<60:=ω
  have I:∀d:SetTable,Tb d (insertAt (es.map (·.1)) p (Ar knd k))->d.mask=t.mask->wpAny (model prog w) A (storeSet S (insertAt es p (Ar knd k,Value.ref b)) d)
    (fun _ s'=>∃h',s'={s with heap:=h'}/\h'.get? S=some {o with data:=.set (insertAt es p (Ar knd k,Value.ref b)) (ep+1) d}/\AQ S s.heap h') E s:=fun d T2 m2=>
   wpAny_storeSet_of (s:=s) X.at_ X.dt ⟨_,rfl,rx X.at_ X.dt,AL ..⟩ (by rw[F,sizeLine_eq];omega)
  have J:(insertAt es p (Ar knd k,Value.ref b)).map (·.1)=insertAt (es.map (·.1)) p (Ar knd k):=ins_map (·.1) es p _ p1;have kQ:(ks++[k]).Nodup:=by
   rw[List.nodup_append];refine⟨X.nd,by simp,fun x hx y hy=>?_⟩;rw[List.mem_singleton.mp hy];exact fun z=>Z (z▸hx)
  have L:∀h',AQ S s.heap h'->∀e∈(insertAt es p (Ar knd k,Value.ref b)).toList,∃D u,D∈ks++[k]/\e=(Ar knd D,Value.ref u)/\AI knd h' D u:=fun h' g e he=>by
   rcases(ins_mem p1).mp he with rfl|he
   ·exact⟨k,b,by simp,rfl,iJ hk X.at_ X.dt g⟩
   ·obtain⟨D,u,W,Y,a3⟩:=X.el e he
    exact⟨D,u,List.mem_append_left _ W,Y,iJ a3 X.at_ X.dt g⟩
  have M:∀h',AQ S s.heap h'->∀D∈ks++[k],∃u,(Ar knd D,Value.ref u)∈(insertAt es p (Ar knd k,Value.ref b)).toList/\AI knd h' D u:=fun h' g D hk'=>by
   rcases List.mem_append.mp hk' with hk'|hk'
   ·obtain⟨u,W,Y⟩:=X.ke D hk'
    exact⟨u,(ins_mem p1).mpr (.inr W),iJ Y X.at_ X.dt g⟩
   ·rw[List.mem_singleton.mp hk']
    exact⟨b,(ins_mem p1).mpr (.inl rfl),iJ hk X.at_ X.dt g⟩
  have N:∀e∈(insertAt es p (Ar knd k,Value.ref b)).toList,∃u∈B,e.2=Value.ref u:=fun e he=>by
   rcases(ins_mem p1).mp he with rfl|he
   ·exact⟨b,jB,rfl⟩
   ·exact X.ad e he
  have C:∀(d:SetTable)(h':Heap),Tb d (insertAt (es.map (·.1)) p (Ar knd k))->d.mask=t.mask->(w.params.followText "set-order"=true\/(d.led=true/\d.plain=true))->h'.get? S=some {o with data:=.set (insertAt es p (Ar knd k,Value.ref b)) (ep+1) d}->AQ S s.heap h'->
    wpAny (model prog w) A (if(!false&&d.tooFull)=true then(setRelay S (SetTable.grown (es.size+1)) >>= fun _=>pure true) else pure true) Q E {s with heap:=h'}:=fun d h' T2 m2 qS hg g=>by
   have T2':Tb d ((insertAt es p (Ar knd k,Value.ref b)).map (·.1)):=by rw[J];exact T2
   have fl:d.fill=es.size+1:=by
    unfold SetTable.fill;rw[T2'.dum,T2'.size,AY,F]
    rfl
   have tf:d.tooFull=decide ((es.size+1)*5 ≥ t.mask*3):=by unfold SetTable.tooFull;rw[fl,m2]
   have lk:es.size+1=(ks++[k]).length:=by rw[As,H];rfl
   have stay:((es.size+1)*5<t.mask*3)->((d.mask=7/\es.size+1<=4)\/(d.mask=31/\es.size+1<=18)\/(d.mask=127/\es.size+1<=76)\/(d.mask=15/\es.size+1<=8)\/(d.mask=63/\es.size+1<=37)\/(d.mask=255/\es.size+1<=152))->wpAny (model prog w) A (if(!false&&d.tooFull)=true then(setRelay S (SetTable.grown (es.size+1)) >>= fun _=>pure true) else pure true) Q E {s with heap:=h'}:=fun q mk=>by
    rw[tf,decide_eq_false ω];simp only[Bool.and_false,Ah,if_false];refine Ac (h true h' {o with data:=.set (insertAt es p (Ar knd k,Value.ref b)) (ep+1) d} (insertAt es p (Ar knd k,Value.ref b)) (ep+1) d ?_ g);rw[if_neg Z];exact⟨hg,X.ex,rfl,T2',by rw[F];exact lk,kQ,L h' g,M h' g,by rw[F];exact mk,N,qS⟩
   have f:∀l n,es.size+1=n->((es.size+1)*5 ≥ t.mask*3)->SetTable.sizeAbove (SetTable.grown n)-1=l->SetTable.sizeAbove (SetTable.grown n)<=1000->ei l->l%2=1->es.size+1<=l->((l=7/\es.size+1<=4)\/(l=31/\es.size+1<=18)\/(l=127/\es.size+1<=76)\/(l=15/\es.size+1<=8)\/(l=63/\es.size+1<=37)\/(l=255/\es.size+1<=152))->
     wpAny (model prog w) A (if(!false&&d.tooFull)=true then(setRelay S (SetTable.grown (es.size+1)) >>= fun _=>pure true) else pure true) Q E {s with heap:=h'}:=fun l n en q w1 w2 c1 c2 c3 mk=>by
    rw[tf,decide_eq_true q];simp only[Bool.not_false,Bool.and_self,if_true];subst en;refine Aa (EU (s:={s with heap:=h'}) (ks:=ks++[k]) hg X.ex rfl T2' (by rw[F];exact lk) kQ N (L h' g) (M h' g) w1 (by rw[sizeLine_eq];omega) c1 c2 (by rw[F];exact c3) (by rw[F];omega) (by rw[F];exact mk) qS fun gC lg gc ge ld tF ng=>?_);refine Ac (h true gC lg gc ge ld ?_ (g.trans ng));rw[if_neg Z];exact tF
   rcases X.msk with ⟨a,c⟩|⟨a,c⟩|⟨a,c⟩|⟨a,c⟩|⟨a,c⟩|⟨a,c⟩
   ·by_cases q:es.size+1<=4
    ·exact stay ω (.inl ⟨ω,q⟩)
    ·exact f 31 5 ω ω δ δ gj rfl ω (.inr (.inl ⟨rfl,ω⟩))
   ·by_cases q:es.size+1<=18
    ·exact stay ω (.inr (.inl ⟨ω,q⟩))
    ·exact f 127 19 ω ω δ δ gk rfl ω (.inr (.inr (.inl ⟨rfl,ω⟩)))
   ·exact stay ω (.inr (.inr (.inl ⟨ω,ω⟩)))
   ·by_cases q:es.size+1<=8
    ·exact stay ω (.inr (.inr (.inr (.inl ⟨ω,q⟩))))
    ·exact f 63 9 ω ω δ δ js rfl ω (.inr (.inr (.inr (.inr (.inl ⟨rfl,ω⟩)))))
   ·by_cases q:es.size+1<=37
    ·exact stay ω (.inr (.inr (.inr (.inr (.inl ⟨ω,q⟩)))))
    ·exact f 255 38 ω ω δ δ j7 rfl ω (.inr (.inr (.inr (.inr (.inr ⟨rfl,ω⟩)))))
   ·exact stay ω (.inr (.inr (.inr (.inr (.inr ⟨ω,ω⟩)))))
  have O:w.params.followText "set-order"=true\/(j.led=true/\j.plain=true):=by
   have e1:j=(t.put (pos t.mask (Ar knd k) ne)).1:=by rw[dh]
   have e2:j.led=t.led:=by rw[e1];rfl
   have e3:j.plain=t.plain:=by rw[e1];rfl
   rw[e2,e3];exact X.wk
  cases hpl:j.plain with
  |true=>
   simp only[if_true];refine Aa (Ki (s:=s) hv hk ?_);simp only[if_true];refine Aa (wpAny_mono (I j p3 p2) (fun _ s' U=>?_) fun _ _ e=>e);obtain⟨h',rfl,g1,g2⟩:=U;exact C j h' p3 p2 O g1 g2
  |false=>
   simp only[Ah,if_false];refine Aa (Ac ?_);simp only[if_true];refine Aa (wpAny_mono (I j p3 p2) (fun _ s' U=>?_) fun _ _ e=>e);obtain⟨h',rfl,g1,g2⟩:=U;exact C j h' p3 p2 O g1 g2
 ·have:t.mask<=255:=by rcases X.msk with ⟨a,_⟩|⟨a,_⟩|⟨a,_⟩|⟨a,_⟩|⟨a,_⟩|⟨a,_⟩<;>omega
  unfold turns at G;omega
def Kj{B:List Addr}{S:Addr}{o:Obj}{es:Array (Int×Value)}{ep:Nat}{t:SetTable}{ks:List (List K)}(X:TS knd s.heap S o es ep t ks B)(hu:A.units<cLine)(a:∀k v n,knd.is k v=true->hashByValue n v=pure true){k:List K}{b:Addr}(hk:AI knd s.heap k b)(c:b∈B)(d:ks.length<60){Q:Bool->Shared->Prop}(h:∀(r:Bool) h' o' es' aR t',TS knd h' S o' es' aR t' (if k∈ks then ks else ks++[k]) B->AQ S s.heap h'->Q r {s with heap:=h',toks:=s.toks+(k.length+1)}):wpAny (model prog w) A (setAdd S (.ref b)) Q E s:=by
 unfold setAdd;exact AA (Aa (wpAny_pyHash_tuple hu hk (zz (s:={s with toks:=s.toks+(k.length+1)}) X hu a hk c d h)))
end
end STb
end
section
namespace STb
def dd{a:Type}[DecidableEq a](l:List a):List a:=l.foldl (fun acc x=>if x∈acc then acc else acc++[x]) []
def hY{a:Type}[DecidableEq a](l:List a)(x:a):dd (l++[x])=if x∈dd l then dd l else dd l++[x]:=by unfold dd;rw[List.foldl_append];rfl
def fj{a:Type}[DecidableEq a](l:List a):(dd l).length<=l.length:=by
 have:∀(l acc:List a),(l.foldl (fun acc x=>if x∈acc then acc else acc++[x]) acc).length<=acc.length+l.length:=by
  intro l
  induction l with
  |nil=>intro acc;simp
  |cons x l ih=>
   intro acc;rw[List.foldl_cons];refine AO (ih _) ?_;split
   ·rw[Au];omega
   ·rw[As,Au,Au,List.length_nil];omega
 simpa[dd] using this l []
def gv{a:Type}[DecidableEq a](l:List a)(x:a):x∈dd l↔x∈l:=by
 have:∀(l acc:List a),x∈(l.foldl (fun acc x=>if x∈acc then acc else acc++[x]) acc)↔x∈acc\/x∈l:=by
  intro l
  induction l with
  |nil=>intro acc;simp
  |cons y l ih=>
   intro acc;rw[List.foldl_cons,ih]
   by_cases h:y∈acc
   ·rw[if_pos h,List.mem_cons]
    constructor
    ·rintro(q|q)
     ·exact .inl q
     ·exact .inr (.inr q)
    ·rintro(q|q|q)
     ·exact .inl q
     ·subst q;exact .inl h
     ·exact .inr q
   ·rw[if_neg h,List.mem_append,Bh,List.mem_cons]
    constructor
    ·rintro((q|q)|q)
     ·exact .inl q
     ·exact .inr (.inl q)
     ·exact .inr (.inr q)
    ·rintro(q|q|q)
     ·exact .inl (.inl q)
     ·exact .inl (.inr q)
     ·exact .inr q
 simpa[dd] using this l []
def lc{c:Type}[DecidableEq c](l:List c):(dd l).Nodup:=by
 have:∀(l acc:List c),acc.Nodup->(l.foldl (fun acc x=>if x∈acc then acc else acc++[x]) acc).Nodup:=by
  intro l
  induction l with
  |nil=>intro acc h;exact h
  |cons y l ih=>
   intro acc h;rw[List.foldl_cons]
   by_cases q:y∈acc
   ·rw[if_pos q];exact ih acc h
   ·rw[if_neg q]
    refine ih _ ?_;rw[List.nodup_append];refine⟨h,by simp,fun a d b hb e=>?_⟩;rw[Bh] at hb;subst hb;subst e;exact q d
 exact this l [] List.nodup_nil
def Kk{a:Type}[DecidableEq a](l m:List a):(dd (l++m)).length<=(dd l).length+m.length:=by
 have:∀(m acc:List a),(m.foldl (fun acc x=>if x∈acc then acc else acc++[x]) acc).length<=acc.length+m.length:=by
  intro m
  induction m with
  |nil=>intro acc;simp
  |cons x l ih=>
   intro acc;rw[List.foldl_cons];refine AO (ih _) ?_;split
   ·rw[Au];omega
   ·rw[As,Au,Au,List.length_nil];omega
 unfold dd;rw[List.foldl_append];exact this m _
def Kl{a:Type}[DecidableEq a](l:List a)(h:∀(k:Nat) x,l[k]?=some x->x∉l.take k):dd l=l:=by
 have:∀k,k<=l.length->dd (l.take k)=l.take k:=by
  intro k
  induction k with
  |zero=>intro _;rfl
  |succ k ih=>
   intro hk;have hx:l[k]?=some l[k]:=Af ω;rw[List.take_add_one,hx];show dd (l.take k++[l[k]])=_;rw[hY,ih ω,if_neg (h k _ hx)]
   rfl
 have q:=this l.length (Ag _);rw[Az (Ag _)] at q;exact q
def Km{a:Type}[DecidableEq a](l:List a){k:Nat}{x:a}(h:l[k]?=some x)(hx:x∈l.take k):(dd l).length<l.length:=by
 have hk:k<l.length:=(List.getElem?_eq_some_iff.mp h).1;have e:l=(l.take k++[x])++l.drop (k+1):=by
  have:=List.take_append_drop (k+1) l;rw[List.take_add_one,h] at this;exact this.symm
 have h1:=Kk (l.take k++[x]) (l.drop (k+1));rw[<-e,hY,if_pos ((gv _ _).mpr hx)] at h1;have h2:=fj (l.take k);rw[AG] at h2;rw[List.length_drop] at h1;omega
def Kn{a:Type}[DecidableEq a](l:List a):(dd l).length<l.length↔∃(k:Nat)(x:a),l[k]?=some x/\x∈l.take k:=by
 constructor
 ·intro h
  apply Classical.byContradiction;intro n;have:=Kl l fun k x e hx=>n ⟨k,x,e,hx⟩;rw[this] at h;exact Nat.lt_irrefl _ h
 ·rintro⟨k,x,e,hx⟩
  exact Km l e hx
end STb
end
section
set_option maxHeartbeats 3200000
namespace STb
open PySem PySem.SetTable PyProof.Rows
section
variable{prog:Program}{w:World}{K:Type}[DecidableEq K]{knd:KeyKind prog w K}{A:Around}{R:Result->Shared->Prop}{I:Addr}{fp wr:List Addr}{G:Array GenState->Array GenState->Prop}{n:Nat}{P:Nat->Value->Prop}{St:Nat->Shared->Prop}
def TS.moved{B:List Addr}{h h':Heap}{S:Addr}{o:Obj}{es:Array (Int×Value)}{ep:Nat}{t:SetTable}{ks:List (List K)}(X:TS knd h S o es ep t ks B)(a:h'.get? S=some o)(hk:∀k b,AI knd h k b->AI knd h' k b):TS knd h' S o es ep t ks B:=
 ⟨a,X.ex,X.dt,X.tb,X.sz,X.nd,fun e he=>let ⟨k,b,a1,a2,a3⟩:=X.el e he;⟨k,b,a1,a2,hk k b a3⟩,fun k hk'=>let ⟨b,a1,a2⟩:=X.ke k hk';⟨b,a1,hk k b a2⟩,X.msk,X.ad,X.wk⟩
def j8{h h':Heap}{k:List K}{b:Addr}(hk:AI knd h k b)(e:∀o,h.get? b=some o->h'.get? b=some o):AI knd h' k b:=by
 obtain⟨o,a,n,c,r⟩:=hk;exact⟨o,a,n,e o c,r⟩
def Ko{B:List Addr}(W:WalksS prog w A.in1 I fp wr G n P St)(hu:A.in1.units<cLine)(hv:∀k v n,knd.is k v=true->hashByValue n v=pure true)(S:Addr)(l:S∉fp)(vals:List (List K))(adr:Nat->Addr)(hn:vals.length=n)(hB:∀i,i<n->adr i∈B)(hz:n<=59)(p:∀i v,P i v->v=.ref (adr i))(hna:∀b o,(∃u m,o.cls=Value.type "tuple"/\o.data=.seq u m)->∀s i,St i s->s.heap.get? b=some o->b∉wr):∀(k i:Nat)(s:Shared),n-i=k->i<=n->St i s->(∃o es ep t,TS knd s.heap S o es ep t (dd (vals.take i)) B)->(∀(j:Nat)(x:List K),vals[j]?=some x->AI knd s.heap x (adr j))->
   (∀s',Moved (S::wr) G s s'->(∃o es ep t,TS knd s'.heap S o es ep t (dd vals) B)->R (.ok (.ret .none)) s')->codeAny (model prog w) A (.builtin "set.update.loop" ⟨[.ref S,.ref I],[]⟩) R s:=by
 have f:S∉wr:=fun h=>l (W.sub _ h);have L:∀b∈wr,b∈S::wr:=fun b hb=>Ay _ hb;have y:∀{i:Nat}{s s':Shared}{x:List K}{b:Addr},St i s->Moved wr G s s'->AI knd s.heap x b->AI knd s'.heap x b:=fun{i s s' x b} a hm hk=>by
  obtain⟨o,u,m,J,hc,hd,hi⟩:=id hk;exact⟨o,u,m,hm.heap b o (hna b o ⟨u,m,hc,hd⟩ s i a J) J,hc,hd,hi⟩
 intro k
 induction k with
 |zero=>
  intro i s hk hi a C hT hR;have E:i=n:=ω
  subst E;refine AW F.entry_set_update_loop ?_;rw[A4 F.plain_set_update_loop _];show wpAny _ A.in1 (pyNext (.ref I) >>= _) _ _ s;refine Aa (W.done s _ _ a fun s' hm=>?_);show wpAny _ A.in1 (ret Value.none) _ _ s';refine Ac (hR s' (hm.mono L) ?_);obtain⟨o,es,ep,t,X⟩:=C;rw[Az ω] at X;exact⟨o,es,ep,t,X.moved (hm.heap S _ f X.at_) fun k b hk=>y a hm hk⟩
 |succ k ih=>
  intro i s hk hi a C hT hR;have c:i<n:=ω
  refine AW F.entry_set_update_loop ?_;rw[A4 F.plain_set_update_loop _];show wpAny _ A.in1 (pyNext (.ref I) >>= _) _ _ s;refine Aa (W.item i s _ _ c a fun v s' N O hm=>?_);obtain rfl:=p i v N;obtain⟨o,es,ep,t,X⟩:=C;have X':TS knd s'.heap S o es ep t (dd (vals.take i)) B:=X.moved (hm.heap S _ f X.at_) fun k b hk=>y a hm hk;have hx:vals[i]?=some vals[i]:=Af ω;have g:=fj (vals.take i);rw[AG] at g;show wpAny _ A.in1 (holding [Value.ref (adr i)] (setAdd S (.ref (adr i))) >>= _) _ _ s';refine Aa (AA (Kj X' hu hv (y a hm (hT i _ hx)) (hB i c) ω fun r h' o' es' H t' z D=>?_));have M:s'.toks<=s'.toks+(vals[i].length+1):=Nat.le_add_right _ _;have fe:St (i+1) {s' with heap:=h',toks:=s'.toks+(vals[i].length+1)}:=W.frame _ s' _ _ O M fun b hb Q e=>by
   rw[D.2 b (fun h:b=S=>l (by rw[<-h];exact hb))];exact e
  have d:vals.take (i+1)=vals.take i++[vals[i]]:=by rw[List.take_add_one,hx];rfl
  have X3:TS knd h' S o' es' H t' (dd (vals.take (i+1))) B:=by
   rw[d,hY]
   by_cases q:vals[i]∈dd (vals.take i)
   ·rw[if_pos q] at z ⊢;exact z
   ·rw[if_neg q] at z ⊢;exact z
  refine Ac ⟨plainId_quiet F.plain_set_update_loop _,ih (i+1) _ ω c fe ⟨o',es',H,t',X3⟩ (fun j x T=>iJ (y a hm (hT j x T)) X'.at_ X'.dt D) fun U Y Z=>?_⟩;refine hR U (Moved.trans W.gtrans ((hm.mono L).then_heap M fun b Q hb e=>?_) Y) Z;rw[D.2 b (fun h:b=S=>hb (by rw[h];exact Av))];exact e
end
end STb
end
section
namespace STb
open PySem PySem.SetTable PyProof.Rows
section
variable{prog:Program}{w:World}{K:Type}[DecidableEq K]{knd:KeyKind prog w K}{A:Around}{E:Ω}{s:Shared}
def Bw(a:Value){Q₁:Ω}(h:Q₁ (.ref s⁻¹) {s with heap:=s.heap.push {cls:=.type "set",dict:=none,data:=.set #[] 0 (.fresh 0 0 (!w.params.followText "set-order"))}}):codeAny (model prog w) A (.call (.builtin "set.__new__") ⟨[.type "set",a],[]⟩) (wants Q₁ E) s:=by
 refine codeAny_of_tree (show wpAny _ A.in1 (do checkBuiltinCall "set.__new__" ⟨[.type "set",a],[]⟩;again (.builtin "set.__new__" ⟨[.type "set",a],[]⟩)) _ _ s from Aa (Bi (F.newCall_set_1 a) (Ac ⟨plainId_quiet F.plain_set_new _,AW F.entry_set_new ?_⟩)));rw[A4 F.plain_set_new _];unfold Builtin.«set.__new__» Builtin.Frozenset.newClass;have b:=sub_set_self;obtain⟨hp,g,d,tk,os⟩:=s;dsimp only;wp_walk;refine wpAny_askSetting (Ac ?_);dsimp only;simp only[newObj];exact Aa (wpAny_alloc (Ac (Ac h)))
def EW{B:List Addr}{l:Addr}{a:Array Value}{vals:List (List K)}{adr:Nat->Addr}{Q:Ω}(hh:A.handled=none)(hl:s.heap.IsList l a)(hu:A.units+64<cLine)(hv:∀k v n,knd.is k v=true->hashByValue n v=pure true)(hz:a.size<=59)(hn:vals.length=a.size)(hB:∀i,i<a.size->adr i∈B)(ao:∀(i:Nat) v,a[i]?=some v->v=.ref (adr i))(hT:∀(j:Nat) x,vals[j]?=some x->AI knd s.heap x (adr j))(h:∀h' tk,(∃o es ep t,TS knd h' s⁻¹ o es ep t (dd vals) B)->(∀b o,b<s⁻¹->s.heap.get? b=some o->h'.get? b=some o)->Q (.ref s⁻¹) {s with heap:=h',toks:=tk}):wpAny (model prog w) A (call (.type "set") [.ref l]) Q E s:=by
 obtain⟨c,tl,cW⟩:=F.called_set.mro;have cN:=F.called_set.made;have aB:=F.called_set.sub;refine wpAny_call (codeAny_of_tree ?_);show wpAny _ _ (callAny (.type "set") _) _ _ _;refine Ac ⟨Code.quiet_builtin _ δ,AW F.entry_type_call ?_⟩;rw[Around.under_plain (weight_type_call_type "set" [.ref l] []) rfl];have h1:=F.called_set.notType;have h2:=F.called_set.canCreate;have ja:=F.typeCall_set_1 (.ref l)
 repeat(any_goals(first|assumption|wp_step))
 refine Bc (Bw (.ref l) (E:=E) (Q₁:=fun obj G=>∃led:Bool,(w.params.followText "set-order"=true\/led=true)/\obj=.ref s⁻¹/\G={s with heap:=s.heap.push {cls:=.type "set",dict:=none,data:=.set #[] 0 (.fresh 0 0 led)}}) ⟨_,by cases w.params.followText "set-order" <;> simp,rfl,rfl⟩) fun r G hr=>?_;cases r with
 |error e=>exact hr
 |ok fl=>
  cases fl with
  |ret obj=>
   obtain⟨led,S,rfl,rfl⟩:=hr;have M:(s.heap.push {cls:=.type "set",dict:=none,data:=.set #[] 0 (.fresh 0 0 led)}).get? s⁻¹=some {cls:=.type "set",dict:=none,data:=.set #[] 0 (.fresh 0 0 led)}:=Al _ rfl;have Z:Shared.TypeIs {s with heap:=s.heap.push {cls:=.type "set",dict:=none,data:=.set #[] 0 (.fresh 0 0 led)}} (.ref s⁻¹) "set":=⟨_,M,rfl⟩;have jZ:=F.called_set.init.lookup;have jt:=F.called_set.init.bind (.ref s⁻¹)
   repeat(any_goals(first|assumption|wp_step))
   refine Bc (codeAny_call_builtin (R:=wants (fun r H=>r=.none/\∃h' tk,H={s with heap:=h',toks:=tk}/\
     (∃o es ep t,TS knd h' s⁻¹ o es ep t (dd vals) B)/\
     (∀b o,b<s⁻¹->s.heap.get? b=some o->h'.get? b=some o)) E) F.called_set.init.plain F.entry_set_init (check_set_init_1 Z ?_)) fun O H u=>?_
   ·obtain⟨T,I,d,J,L⟩:=hl
    obtain⟨mH,U,jx,W⟩:=T;simp only at d L;subst d;subst L;have gB:(s.heap.push {cls:=.type "set",dict:=none,data:=.set #[] 0 (.fresh 0 0 led)}).get? l=some {cls:=.type "list",dict:=U,data:=.seq a J,slots:=W}:=Ad _ I;have nP:=F.sub_list_set;have mL:=F.sub_list_frozenset;have hne:(Value.type "list" == Value.type "dict")=false:=ξ
    have f:(s.heap.push {cls:=.type "set",dict:=none,data:=.set #[] 0 (.fresh 0 0 led)}).IsList l a:=⟨_,gB,rfl,J,rfl⟩;unfold Builtin.«set.__init__» noKeywords Builtin.Frozenset.updateFrom;generalize hPI:pyIter=PI
    wp_walk
    subst hPI;refine wpAny_pyIter_list f ?_;refine Aa (wpAny_runValue ?_);have N:l<s⁻¹:=Ak I;have nY:A.in1.in1.in1.handled=none:=by simp[hh]
    have g:l≠(s.heap.push {cls:=.type "set",dict:=none,data:=.set #[] 0 (.fresh 0 0 led)}).objs.size:=by
     rw[Heap.size_push];exact Ao (Be N)
    have C:s⁻¹∉[(s.heap.push {cls:=.type "set",dict:=none,data:=.set #[] 0 (.fresh 0 0 led)}).objs.size,l]:=by
     rw[Heap.size_push];simp only[List.mem_cons,Bh,List.not_mem_nil,or_false,not_or];exact⟨Ao (Nat.lt_succ_self _),Nat.ne_of_gt N⟩
    refine Ko (knd:=knd) ((Walks.list nY _ l g a).toS) (by show A.units+1+1+1<cLine;omega) hv s⁻¹ C vals adr hn hB hz (fun i v q=>ao i v q) (fun b o P s' i st e hb=>?hna)
     (a.size-0) 0 _ ω (AK _) ⟨⟨_,Al _ rfl,rfl,rfl⟩,(f.push _)⟩ ⟨{cls:=.type "set",dict:=none,data:=.set #[] 0 (.fresh 0 0 led)},#[],0,.fresh 0 0 led,?hS0⟩ (fun j x hx=>j8 (hT j x hx) fun o e=>Ad _ (Ad _ e)) ?hR
    case hna=>
     obtain⟨⟨oi,e1,e2,_⟩,_⟩:=st;obtain⟨ae,m,hc,_⟩:=P;simp only[Bh] at hb;subst hb;have e3:=An (e1.symm.trans e);rw[<-e3,e2] at hc;exact absurd hc ξ
    case hS0=>
     have p:((s.heap.push {cls:=.type "set",dict:=none,data:=.set #[] 0 (.fresh 0 0 led)}).push {cls:=.type "list_iterator",data:=.fields #[.ref l,.int 0 0]}).get? s⁻¹
      =some {cls:=.type "set",dict:=none,data:=.set #[] 0 (.fresh 0 0 led)}:=Ad _ M
     exact⟨p,⟨rfl,rfl,rfl⟩,rfl,(by simpa using rv 0 0 led),rfl,List.nodup_nil,fun e he=>by simp at he,fun k hk=>by simp[dd] at hk,.inl ⟨rfl,AK _⟩,(fun e he=>by simp at he),S.imp id fun z=>⟨z,rfl⟩⟩
    case hR=>
     intro s' hm y;obtain⟨h',g',d',X,Y⟩:=s';have eg:g'=s.gens:=hm.gens;have ed:d'=s.drawn:=hm.drawn;have eo:Y=s.os:=hm.os;subst eg;subst ed;subst eo;show wpAny _ _ _ _ _ _;refine Ac ?_;show wpAny _ _ (ret Value.none) _ _ _;refine Ac ⟨rfl,h',X,rfl,y,fun b o hb e=>?_⟩;have D:b≠s⁻¹:=Ao hb;have aU:b≠(s.heap.push {cls:=.type "set",dict:=none,data:=.set #[] 0 (.fresh 0 0 led)}).objs.size:=by
      rw[Heap.size_push];exact Ao (Be hb)
     exact hm.heap b o (by simp only[List.mem_cons,Bh,List.not_mem_nil,or_false,not_or];exact⟨D,aU⟩) (Ad _ (Ad _ e))
   ·cases O with
    |error e=>exact u
    |ok fl₂=>
     cases fl₂ with
     |ret r=>
      obtain⟨rfl,h',tk,rfl,y,hk'⟩:=u
      repeat(any_goals(first|assumption|wp_step))
      exact h _ _ y hk'
     |_=>exact u.elim
  |_=>exact hr.elim
end
end STb
namespace L2
open PySem PySem.Spec PyProof.Rows
def gA(D:Addr)(n:Nat):HO:=.ext fun h=>∃o es ep t,h.get? D=some o/\o.ExactSet/\o.data=.set es ep t/\t.fits es.size=true/\es.size=n/\n<=100
section
variable{X:Cx}
def ry{prog:Program}{w:World}:∀(k:Int)(v:Value)(n:Nat),(intKind prog w).is k v=true->hashByValue n v=pure true:=by
 intro k v n h;obtain⟨t,rfl⟩:=Value.isInt_shape h;cases n<;>rfl
def Bx{prog:Program}{w:World}{h:Heap}{c:Addr}{cs:List Value}{a:List Int}(hc:IsTup h c cs.toArray)(hi:IntsAre cs a):AI (intKind prog w) h a c:=by
 obtain⟨o,e,b,k,d⟩:=hc;refine⟨o,cs.toArray,k,e,b,d,?_⟩;have:∀{cs:List Value}{a:List Int},IntsAre cs a->ItemsAre (intKind prog w) a cs:=by
  intro cs a hi
  induction hi with
  |nil=>exact .nil
  |cons n t h ih=>exact .cons (by show Value.isInt n (.int n t)=true;simp[Value.isInt]) ih
 simpa using this hi
def Kp(hc:X.calm=true)(hu:X.A.units+64<cLine):zU X (.type "set") (fun xs H Q=>∃(l:Addr)(as:List Addr)(pss:Ξ),xs=[.ref l]/\SqL X.K H l (as.map V.ref)/\Tps H as pss/\pss.length<=59/\
  ∀D,H D=none->Q (.ref D) (upd H D (gA D (STb.dd pss).length))):=by
 intro aa s σ H xs us Q I r h;obtain⟨l,as,pss,rfl,hq,hp,hz,q⟩:=h;obtain⟨u,rfl,z⟩:=vals1 r;cases z;obtain⟨C,E,p1,_⟩:=I.list hq;obtain rfl:=aT E;have G:=hp.length;refine STb.EW (B:=as) (knd:=intKind X.prog X.w) (vals:=pss) (adr:=fun i=>as.getD i 0) (I.ok.hd hc) p1.isList hu ry (by rw[Aj,Ab];omega) (by rw[Aj,Ab];omega) (fun i hi=>by rw[Aj,Ab] at hi;rw[AR,Af hi];exact A9 hi)
  (fun i v e=>?_) (fun j x e=>?_) fun h' tk ⟨o,es,ep,t,T⟩ g=>?_
 ·have d:(as.map Value.ref)[i]?=some v:=by simpa using e
  rw[Ai] at d;cases c:as[i]? with
  |none=>rw[c] at d;simp at d
  |some a=>
   rw[c] at d;rw[<-An d,AR,c]
   rfl
 ·have J:j<as.length:=by rw[G];exact(List.getElem?_eq_some_iff.mp e).1
  have c:as[j]?=some as[j]:=Af J;obtain⟨L,e1,e2⟩:=hp.get c;rw[e] at e1;obtain rfl:=An e1;obtain⟨C,F,p2,_⟩:=I.tuple (SqT.of (K:=X.K) e2);rw[AR,c];exact Bx p2 (intsAre_of F)
 ·have f:=STb.fj pss
  refine⟨.ref s⁻¹,_,I.laid (o:=gA s⁻¹ (STb.dd pss).length) (fun b u e=>g b u (Ak e) e) (Ag _) ?_,rfl,q _ (I.hok.fresh (Ag _))⟩;refine⟨⟨o,es,ep,t,T.at_,T.ex,T.dt,STb.fits_of T.tb,T.sz,ω⟩,⟨o,T.at_⟩,fun h1 h2 ⟨o',es',p,t',g1,g2⟩ y=>⟨o',es',p,t',y _ g1,g2⟩⟩
def Kq:zU X (.builtin "len") (fun xs H Q=>∃D n,xs=[.ref D]/\H D=some (gA D n)/\Q (.int n) H):=by
 intro aa s σ H xs us Q I r h;obtain⟨D,n,rfl,hq,q⟩:=h;obtain⟨u,rfl,a⟩:=vals1 r;cases a;obtain⟨⟨o,es,ep,t,h1,h2,b,c,d,e⟩,_⟩:=(show zB X.prog X.w H s.heap D (gA D n) from I.hok D _ hq);exact call_len_set h1 h2 b c ω ⟨.int n,H,I.tok _,⟨_,by rw[d]⟩,q⟩
end
end L2
end
section
namespace Spl
open PySem PySem.Spec PySem.Builtin PySem.Builtin.Str PyProof.Rows
section
variable{prog:Program}{w:World}{A:Around}{E:Ω}{s:Shared}{x y:PySem.Str}{t u:Tok}{Q:Ω}
def split1(hy:(y.length==0)=false)(h:∀(l:List (PySem.Str×Tok)) k,l.map (·.1)=Txt.split x y->Q (.ref s⁻¹) {s with heap:=s.heap.push {cls:=.type "list",data:=.seq (strValues l).toArray},toks:=k})(hsz:x.length+2<=sizeLine):wpAny (model prog w) A (call (.builtin "str.split") [.str x t,.str y u]) Q E s:=by
 have a:(partsBetween x (occurrences x y 0 x.length (x.length+1)) y.length).length<=sizeLine:=by
  have e1:=StrLaws.occ_length_le x y 0 x.length (x.length+1);rw[length_partsBetween];omega
 cases h1:(decide (x.length<y.length)|| decide (strKind x<strKind y))
 ·cases hf:(occurrences x y 0 x.length (x.length+1)).isEmpty
  ·refine call_meets F.slot_str_split (typeIs_str _ _ _) F.entry_str_split (F.args_str_split_2 _ _) (meets_str_split_sep x y t u h1 hy hf ω a) ?_
   show wants Q E _ {s with toks:=_,heap:=s.heap.push {cls:=.type "list",data:=.seq (strsFrom s.toks (partsBetween x (occurrences x y 0 x.length (x.length+1)) y.length)).toArray}};rw[strsFrom_eq];exact h (numbered s.toks _) _ ((numbered_texts _ _).trans ((if_neg (ne_true_of_eq_false h1)).trans (if_neg (ne_true_of_eq_false hf))).symm)
  ·exact call_meets F.slot_str_split (typeIs_str _ _ _) F.entry_str_split (F.args_str_split_2 _ _) (meets_str_split_not_found x y t u h1 hy hf)
    (h [(x,t)] s.toks ((if_neg (ne_true_of_eq_false h1)).trans (if_pos hf)).symm)
 ·exact call_meets F.slot_str_split (typeIs_str _ _ _) F.entry_str_split (F.args_str_split_2 _ _) (meets_str_split_cannot_occur x y t u h1)
   (h [(x,t)] s.toks (if_pos h1).symm)
end
end Spl
namespace L2
open PySem PySem.Spec PyProof.Rows
section
variable{X:Cx}
def EY:∀(l:List (PySem.Str×Tok)),Vals ((l.map (·.1)).map V.str) (strValues l)
 |[]=>.nil
 |p::l=>.cons ⟨p.2,rfl⟩ (EY l)
def zoh:V->List V->Hp->VK->Prop:=fun x vs H Q=>∃z y,x=.str z/\vs=[.str y]/\(y.length==0)=false/\z.length+2<=sizeLine/\(Txt.split z y).length<=sizeLine/\∀D,H D=none->Q (.ref D) (upd H D (.lst ((Txt.split z y).map V.str)))
def Kr:kW X "str.split" zoh:=by
 intro aa s σ H x vs v us Q I a c h;obtain⟨z,y,rfl,rfl,hy,hz,d,q⟩:=h;obtain⟨t,rfl⟩:=a;obtain⟨u,rfl,f⟩:=c.one;obtain⟨t',rfl⟩:=f;refine Spl.split1 hy (fun l k e=>?_) hz;refine⟨.ref s⁻¹,_,I.laid (t':=k) (o:=.lst ((Txt.split z y).map V.str)) (fun b ob q=>Ad _ q) (Ag _) ?_,rfl,q _ (I.hok.fresh (Ag _))⟩;refine⟨by rw[Ab];exact d,strValues l,0,?_,Al _ rfl⟩;rw[<-e];exact EY l
def rz(x:PySem.Str):It:=⟨fun i _=>i<x.cps.size,fun i H v H'=>H'=H/\∃c,x.cps[i]?=some c/\v=.str ⟨#[c]⟩,fun i _=>i=x.cps.size⟩
def EZ{P:Program}{w:World}{K:Ae}{tg:Expr}(x:PySem.Str)(it:Addr)(T:String)(q:["enumerate","zip","dict_itemiterator","dict_reverseitemiterator","odict_iterator","itertools.zip_longest","itertools.pairwise"].contains T=false)(t:Tok)(W:∀A':Around,A'.handled=none->Walks P w A' it [it] [it] x.cps.size (SignAt x) (fun i h=>h.IsStrIter it T x t i))(r:∀(A:Around)(i:Nat)(s:Shared)(Q:Ω)(E:Ω),s.heap.IsStrIter it T x t i->Q (.ref it) s->wpAny (model P w) A (pyIter (.ref it)) Q E s):Turn P w K tg (rz x) [it] it (fun i h=>h.IsStrIter it T x t i) where
 mem:=by simp
 obj:=fun i h st b hb=>by
  have e:b=it:=by simpa using hb
  subst e;obtain⟨o,e,c,d⟩:=st;exact⟨o,e,fun v z=>by rw[d] at z;cases z⟩
 keep:=fun i h h' st k=>by
  obtain⟨o,e,c⟩:=st;exact⟨o,k it (by simp) o e,c⟩
 item:=by
  intro X a hw f hc i aa s σ H E I hf st g;subst a hw f;obtain⟨f0,f1,f2,f3,f4,f5⟩:=hf it (by simp);refine(W X.A (I.ok.hd hc)).item i s _ _ g st fun v h' tk p l j=>?_;obtain⟨c,u,hx,rfl⟩:=p;have y:Inv X aa σ H {s with heap:=h',toks:=tk}:=I.turned (fun b o hb e=>j b o (by simpa using hb) e) f0 f1 f3 f4 f5;obtain⟨o,e1,e2,e3⟩:=id l;exact⟨_,rfl,jN (s:={s with heap:=h',toks:=tk}) e1 e2 e3 q ⟨.str ⟨#[c]⟩,H,y,⟨u,rfl⟩,⟨rfl,c,hx,rfl⟩,l,fun b hb=>(hf b hb).1⟩⟩
 done:=by
  intro X a hw f hc i aa s σ H E I hf st g;subst a hw f;obtain⟨f0,f1,f2,f3,f4,f5⟩:=hf it (by simp);have hi:i=x.cps.size:=g;subst hi;exact(W X.A (I.ok.hd hc)).done s _ _ st fun h' tk j=>⟨rfl,I.turned (fun b o hb e=>j b o (by simpa using hb) e) f0 f1 f3 f4 f5⟩
 self:=r
def BG(te:TE):TI:=fun σ H R=>te σ H fun v H1=>∃x,v=.str x/\R (rz x) H1
def Ks{tg l:Expr}{tl:TE}(g:PE X l tl):PI X tg l (BG tl):=by
 intro aa s σ H R I h;refine aL (g aa s σ H _ I h) fun v a ⟨x,H1,I1,d,f⟩=>?_;obtain⟨z,e,q⟩:=f;subst e;obtain⟨t,rfl⟩:=d;have fin:∀(o:Obj),Inv X aa σ H1 {a with heap:=a.heap.push o}:=fun o=>I1.kept (t':=a.toks) fun b o e=>Ad _ e;have fp:∀b∈[a⁻¹],a_ X aa H1 b:=fun b hb=>by
  have e:b=a⁻¹:=by simpa using hb
  subst e;exact I1.fpOk (Ag _) (I1.hok.fresh (Ag _))
 cases ha:z.cps.all (·<128)
 ·refine wpAny_pyIter_wide ha ?_
  exact⟨a⁻¹,[a⁻¹],_,_,H1,rfl,fin _,EZ z _ "str_iterator" ξ t (fun j c=>Walks.strWide c _ z t) (fun A i s Q E st h=>wpAny_pyIter_striter_wide st h),⟨_,Al _ rfl,rfl,rfl⟩,fp,q⟩
 ·refine wpAny_pyIter_ascii ha ?_
  exact⟨a⁻¹,[a⁻¹],_,_,H1,rfl,fin _,EZ z _ "str_ascii_iterator" ξ t (fun j c=>Walks.strAscii c _ z t) (fun A i s Q E st h=>wpAny_pyIter_striter_ascii st h),⟨_,Al _ rfl,rfl,rfl⟩,fp,q⟩
def Kt{g:TG}{tc:TT}{te:TE}{σ:St}{H1:Hp}{Q:VK}{D:Addr}{x:PySem.Str}(a:Nat->St->List V->Hp->Prop)(h:a 0 σ [] (upd H1 D (.lst [])))(hs:∀i σ ys H c,x.cps[i]?=some c->i<x.cps.size->ys.length<=i->a i σ ys H->g (.str ⟨#[c]⟩) σ H fun d j=>tc d j fun b f=>if b=true then te d f (dL x.cps.size a D i d) else cv x.cps.size a i d f)(hd:∀σ ys H,a x.cps.size σ ys H->Q (.ref D) H):cG (rz x) g tc te σ H1 D Q:=by
 refine jr x.cps.size a h (fun σ ys H p=>rfl) (fun i σ ys H hi p=>hi) (fun i σ ys H v H' hi hy p y=>?_) hd;obtain⟨e,c,hc,rfl⟩:=y;subst e;exact hs i σ ys _ c hc hi hy p
end
end L2
end
section
namespace K1
open STb
def subs(ps:List Int):Ξ:=ps.foldl (fun a x=>a++a.map (·++[x])) [[]]
def parts(ps:List Int):Ξ:=(subs ps).drop 1
def BJ(ps:List Int)(x:Int):subs (ps++[x])=subs ps++(subs ps).map (·++[x]):=by unfold subs;rw[List.foldl_append];rfl
def rF(ps:List Int):(subs ps).length=2 ^ ps.length:=by
 have:∀(ps:List Int)(acc:Ξ),(ps.foldl (fun a x=>a++a.map (·++[x])) acc).length=acc.length*2 ^ ps.length:=by
  intro ps
  induction ps with
  |nil=>intro acc;simp
  |cons x ps ih=>
   intro acc;rw[List.foldl_cons,ih,As,Ab,Au,Nat.pow_succ];rw[<-Nat.two_mul,Nat.mul_comm 2,Nat.mul_assoc,Nat.mul_comm 2]
 simpa[subs] using this ps [[]]
def BL(ps:List Int):∃t,subs ps=[]::t/\∀q∈t,q≠[]:=by
 have:∀(ps:List Int)(acc:Ξ),(∃t,acc=[]::t/\∀q∈t,q≠[])->∃t,ps.foldl (fun a x=>a++a.map (·++[x])) acc=[]::t/\∀q∈t,q≠[]:=by
  intro ps
  induction ps with
  |nil=>intro acc h;exact h
  |cons x ps ih=>
   rintro acc ⟨t,rfl,h⟩;rw[List.foldl_cons];refine ih _ ⟨t++([]::t).map (·++[x]),rfl,fun q hq=>?_⟩;rcases List.mem_append.mp hq with hq|hq
   ·exact h q hq
   ·obtain⟨r,_,rfl⟩:=List.mem_map.mp hq
    simp
 exact this ps [[]] ⟨[],rfl,fun q hq=>nomatch hq⟩
def Ku(ps:List Int):(subs ps).filter (fun q=>!decide (q=[]))=parts ps:=by
 obtain⟨t,e,h⟩:=BL ps;unfold parts;rw[e];show List.filter _ ([]::t)=t;rw[List.filter_cons,if_neg (by simp)];exact List.filter_eq_self.mpr fun q hq=>by simp[h q hq]
def lf(ps:List Int):(parts ps).length=2 ^ ps.length-1:=by unfold parts;rw[List.length_drop,rF]
def E1(ps:List Int):∀q∈subs ps,q.length<=ps.length:=by
 have:∀(ps:List Int)(acc:Ξ)(n:Nat),(∀q∈acc,q.length<=n)->∀q∈ps.foldl (fun a x=>a++a.map (·++[x])) acc,q.length<=n+ps.length:=by
  intro ps
  induction ps with
  |nil=>intro acc n h q hq;simpa using h q hq
  |cons x ps ih=>
   intro acc n h q hq;rw[List.foldl_cons] at hq;have:=ih _ (n+1) (fun r hr=>by
    rcases List.mem_append.mp hr with hr|hr
    ·exact Nat.le_succ_of_le (h r hr)
    ·obtain⟨u,hu,rfl⟩:=List.mem_map.mp hr
     rw[As];exact Nat.succ_le_succ (h u hu)) q hq
   rw[Au];omega
 intro q hq;have:=this ps [[]] 0 (fun r hr=>by simp at hr;subst hr;exact Ag _) q hq;omega
def aV:List Int->Bool
 |a::b::r=>decide (a<b)&&aV (b::r)
 |_=>true
def E2:∀ps:List Int,((ps.zip (ps.drop 1)).map fun p=>decide (p.1<p.2)).all id=aV ps
 |[]=>rfl
 |[_]=>rfl
 |a::b::r=>by
  have:=E2 (b::r);unfold aV;rw[<-this]
  rfl
def BQ:∀ps:List Int,aV ps=true↔∀(i:Nat) a b,ps[i]?=some a->ps[i+1]?=some b->a<b
 |[]=>by simp[aV]
 |[x]=>by simp[aV]
 |x::y::r=>by
  unfold aV;rw[AN,decide_eq_true_eq,BQ (y::r)];constructor
  ·rintro⟨h1,h2⟩ i a b c hb
   cases i with
   |zero=>simp at c hb;subst c hb;exact h1
   |succ i=>exact h2 i a b (by simpa using c) (by simpa using hb)
  ·intro h
   exact⟨h 0 x y rfl rfl,fun i a b c hb=>h (i+1) a b (by simpa using c) (by simpa using hb)⟩
def E3(ps:List Int)(h:aV ps=true):∀(d i:Nat) a b,ps[i]?=some a->ps[i+d]?=some b->a<=b:=by
 intro d
 induction d with
 |zero=>intro i a b c hb;rw[Nat.add_zero,c] at hb;cases hb;exact Int.le_refl _
 |succ d ih=>
  intro i a b c hb;have e:i+(d+1)<ps.length:=(List.getElem?_eq_some_iff.mp hb).1;have hc:ps[i+d]?=some ps[i+d]:=Af ω;have h1:=ih i a _ c hc;have h2:=(BQ ps).mp h (i+d) _ b hc hb;omega
def zY(ps:List Int):Bool:=decide (1<=ps.length)&&decide (ps.length<=5)&&!(decide (ps.headD 0<0))&&!(decide (99<ps.getLastD 0))&&aV ps
def eX(ps:List Int):Bool:=decide (1<=ps.length)&&decide (ps.length<=5)&&ps.all (fun p=>decide (0<=p)&&decide (p<=99))&&aV ps
def E4(ps:List Int):zY ps=eX ps:=by
 unfold zY eX;cases ps with
 |nil=>rfl
 |cons x r=>
  by_cases hr:aV (x::r)=true
  ·rw[hr,Bool.and_true,Bool.and_true]
   by_cases c:(x::r).length<=5
   ·have e1:(x::r).getLastD 0=(x::r)[(x::r).length-1]:=by
     rw[List.getLastD_eq_getLast?,List.getLast?_eq_getElem?,Af (by simp)];rfl
    have key:(!(decide ((x::r).headD 0<0))&&!(decide (99<(x::r).getLastD 0)))=(x::r).all (fun p=>decide (0<=p)&&decide (p<=99)):=by
     rw[Bool.eq_iff_iff];rw[AN,Bool.not_eq_true',Bool.not_eq_true',decide_eq_false_iff_not,decide_eq_false_iff_not,List.all_eq_true];constructor
     ·rintro⟨a,b⟩ p hp
      obtain⟨i,hi⟩:=List.mem_iff_getElem?.mp hp;have d:i<(x::r).length:=(List.getElem?_eq_some_iff.mp hi).1;have g1:=E3 (x::r) hr i 0 x p rfl (by simpa using hi);have g2:=E3 (x::r) hr ((x::r).length-1-i) i p ((x::r)[(x::r).length-1]) hi (by
       rw[show i+((x::r).length-1-i)=(x::r).length-1 from ω];exact Af (by simp))
      rw[e1] at b;have e:¬x<0:=a;simp only[AN,decide_eq_true_eq];constructor<;>omega
     ·intro h
      have g1:=h x Av;have g2:=h ((x::r)[(x::r).length-1]) (A9 _);rw[e1];simp only[AN,decide_eq_true_eq] at g1 g2;constructor
      ·show ¬x<0;omega
      ·omega
    rw[<-key];simp only[Bool.and_assoc]
   ·rw[decide_eq_false c];simp
  ·have:aV (x::r)=false:=by simpa using hr
   rw[this,Bool.and_false,Bool.and_false]
def bI(pss:Ξ):Bool:=decide (pss.length<=20)&&pss.all zY&&!(decide ((dd pss).length<pss.length))&&decide ((dd (pss.flatMap parts)).length<=200)
def E5(pss:Ξ)(k:Nat):Prop:=∀(i:Nat) ps,i<k->pss[i]?=some ps->ps∉pss.take i/\eX ps=true
def Kv(pss:Ξ)(h:pss.length<=20)(a:E5 pss pss.length):bI pss=decide ((dd (pss.flatMap parts)).length<=200):=by
 unfold bI;have h1:pss.all zY=true:=List.all_eq_true.mpr fun ps hp=>by
  obtain⟨i,hi⟩:=List.mem_iff_getElem?.mp hp;rw[E4];exact(a i ps (List.getElem?_eq_some_iff.mp hi).1 hi).2
 have h2:¬(dd pss).length<pss.length:=fun z=>by
  obtain⟨k,x,e,hx⟩:=(Kn pss).mp z;exact(a k x (List.getElem?_eq_some_iff.mp e).1 e).1 hx
 rw[decide_eq_true h,h1,decide_eq_false h2]
 rfl
def Kw(pss:Ξ)(h:¬pss.length<=20):bI pss=false:=by unfold bI;rw[decide_eq_false h];rfl
end K1
end
section
namespace L2
open PySem PySem.Spec PyProof.Rows
def iK(N N':List Str)(au:List (Option Nat))(scope:Scope):Bool:=decide (au.length=N'.length)&&(au.zip N').all fun p=>match p.1 with
 |none=>true
 |some j=>decide (N[j]?=some p.2)&&decide (scope.names.lookup p.2=some .free)
def E6{N N':List Str}{au:List (Option Nat)}{scope:Scope}(h:iK N N' au scope=true):rg N N' au scope:=by
 unfold iK at h;rw[AN,decide_eq_true_eq,List.all_eq_true] at h;refine⟨h.1,fun i j e=>?_⟩;have hi:i<au.length:=(List.getElem?_eq_some_iff.mp e).1;have e2:N'[i]?=some N'[i]:=Af (by rw[<-h.1];exact hi);have:=h.2 (some j,N'[i]) (List.mem_iff_getElem?.mpr ⟨i,by rw[bg.bC,e,e2];rfl⟩);simp only[AN,decide_eq_true_eq] at this;exact⟨N'[i],e2,this.1,this.2⟩
section
variable{X:Cx}{scope:Scope}{au:List (Option Nat)}{tg iter cm:Expr}{bD:List Expr}{wi:TI}{g:TG}{tc:TT}{te:TE}{pos:Pos}
def zw(N N':List Str)(au:List (Option Nat))(hi:PI X tg iter wi)(b:∀a C s₀ H₀ ex,PG (cxC X scope N' a C s₀ H₀ ex) tg g)(c:∀a C s₀ H₀ ex,jl (cxC X scope N' a C s₀ H₀ ex) bD tc)(he:∀a C s₀ H₀ ex,PE (cxC X scope N' a C s₀ H₀ ex) cm te)(hc:X.calm=true:=by rfl)(hk:scope.kind=.function:=by rfl)(d:∀y∈scope.names,y.2≠.cell:=by decide +kernel)(e:∀y∈scope.names,y.2=.local->scope.names.lookup y.1=some .local:=by decide +kernel)(hfr:∀y∈scope.names,y.2=.free->X.env.kindOf y.1=some .cell\/X.env.kindOf y.1=some .free)(f:X.N=N:=by rfl)(h:iK N N' au scope=true:=by decide +kernel)(hs:∀x,foldedSetIterable iter X.env x=pure x:=by intro _;rfl):PE X (.ListComp cm [⟨tg,iter,bD,0⟩] scope pos) (k9 wi au g tc te):=
 JE hc hk d e hfr (E6 (by rw[f];exact h)) hi b c he hs
end
def bN{env:Env}{scope:Scope}(h:scope.names.all (fun y=>decide (y.2≠.free))=true):∀y∈scope.names,y.2=.free->env.kindOf y.1=some .cell\/env.kindOf y.1=some .free:=fun y hy e=>
 absurd e (of_decide_eq_true (List.all_eq_true.mp h y hy))
def bO{env:Env}{scope:Scope}(a:Scope)(h:scope.names.all (fun y=>decide (y.2≠.free)|| decide (a.names.lookup y.1=some .cell)|| decide (a.names.lookup y.1=some .free))=true)(b:env.scope=a:=by rfl):∀y∈scope.names,y.2=.free->env.kindOf y.1=some .cell\/env.kindOf y.1=some .free:=fun y hy e=>by
 subst b;have:=List.all_eq_true.mp h y hy;simp only[Bool.or_eq_true,decide_eq_true_eq] at this;rcases this with (q|q)|q
 ·exact absurd e q
 ·exact .inl q
 ·exact .inr q
def bR(l:List Str)(h:l.Nodup:=by decide +kernel):l.Nodup:=h
def j9{te:TE}{σ:St}{H:Hp}{P:VK}{S:Hp->Prop}(h:te σ H P):ci σ H fun b a=>if b=true then te σ a P else S a:=by
 show if true=true then te σ H P else S H;rw[if_pos rfl];exact h
def cJ{i:Nat}{v:V}{te:TE}{σ:St}{H:Hp}{P:St->VK}{S:St->Hp->Prop}(h:te (σ.set i (some v)) H (P (σ.set i (some v)))):cA i v σ H fun a d=>ci a d fun b c=>if b=true then te a c (P a) else S a c:=j9 (S:=S (σ.set i (some v))) h
def zy{J:It}{g:TG}{tc:TT}{te:TE}{σ:St}{H1:Hp}{Q:VK}{D:Addr}(h:cG J g tc te σ H1 D Q):cG J g tc te σ H1 D Q:=h
def Paired.of_at{c d:Type}{R:c->d->Prop}:∀{l:List c}{m:List d},l.length=m.length->(∀(i:Nat) x y,l[i]?=some x->m[i]?=some y->R x y)->Paired R l m
 |[],[],_,_=>.nil
 |x::l,y::m,h,f=>.cons (f 0 x y rfl rfl) (Paired.of_at (by simpa using h) fun i a b h1 h2=>f (i+1) a b (by simpa using h1) (by simpa using h2))
 |[],_::_,h,_=>by simp at h
 |_::_,[],h,_=>by simp at h
end L2
end
section
namespace HT
open PySem PyProof.Rows
section
variable{prog:Program}{w:World}{A:Around}{E:Ω}{s:Shared}
def Kx{t c:Addr}{a:Array Value}{d e:Value}{lo hi:Option Int}{Q:Ω}(b:IsTup s.heap t a)(hs:s.heap.IsSliceOf c d e .none)(l:IsPart d lo)(o:IsPart e hi)(hw:sIx a.size 0 lo=0/\sIx a.size a.size hi=a.size)(h:Q (.ref t) s):wpAny (model prog w) A (getItem (.ref t) (.ref c)) Q E s:=by
 obtain⟨os,f,g,p⟩:=id hs;have i:s.TypeIs (.ref c) "slice":=⟨os,f,g⟩;obtain⟨q,r,u,v,x⟩:=id b;unfold getItem
 try with_reducible refine AA ?_
 first|refine Aa (Ac ?_)|skip
 refine Aa (wpAny_sequenceKey b.typeIs ξ ?_);refine Aa (AS (name:=Bm "__getitem__") b.typeIs PyProof.Rows.slot_tuple_getitem
  (AC PyProof.Rows.slot_tuple_getitem b.typeIs entry_tuple_getitem ?_ (args_tuple_getitem _ _)))
 show wpAny _ _ (Builtin.Tuple.tupleItemsOf (.ref t) >>= _) _ _ s;refine Aa (tupleItemsOf_ b ?_);refine Aa (wpAny_typeOf i ?_);rw[if_pos ξ];refine Aa (DA hs l o ?_);have j:((((sIx a.size 0 lo:Nat):Int)==0&&(1:Int)==1&&(sIx a.size a.size hi-sIx a.size 0 lo)==a.size)=true):=by
  rw[hw.1,hw.2];simp
 show wpAny _ _ (if(((sIx a.size 0 lo:Nat):Int)==0&&(1:Int)==1&&(sIx a.size a.size hi-sIx a.size 0 lo)==a.size)=true then _ else _) _ _ s;rw[if_pos j];refine Aa ?_;unfold Builtin.Tuple.tupleIsExact;refine Aa (wpAny_typeOf b.typeIs (Ac ?_));rw[if_pos ξ];refine Aa (wpAny_rule ?_);exact Ac ⟨_,rfl,Ac h⟩
end
end HT
namespace L2
open PySem PySem.Spec PyProof.Rows
section
variable{X:Cx}
def BY:V->Option Int->Option Int->Hp->VK->Prop:=fun x lo hi H Q=>∃a xs,x=.ref a/\H a=some (.tup xs)/\∀p H',Same H H'->H' p=some (.tup (br xs lo hi))->Q (.ref p) H'
def E7:qP X BY:=by
 intro aa s σ H x v g i lo hi j Q I c hs d e h;obtain⟨a,xs,rfl,hx,q⟩:=h
 by_cases hw:HT.sIx xs.length 0 lo=0/\HT.sIx xs.length xs.length hi=xs.length
 ·cases c
  obtain⟨l,r,f,hz⟩:=I.tuple (SqT.of (K:=X.K) hx);have b:l.toArray.size=xs.length:=by rw[Aj];exact r.length.symm
  refine⟨"tuple",_,PyProof.Rows.slot_tuple_getitem.lookup,f.typeIs,HT.Kx f hs d e (by rw[b];exact hw) ⟨.ref a,H,I,rfl,q a H (Same.refl H) ?_⟩⟩;rw[hx];unfold br;rw[hw.1,hw.2,List.drop_zero,Nat.sub_zero,Az (Ag _)]
 ·exact DE aa s σ H (.ref a) v g i lo hi j Q I c hs d e ⟨a,xs,rfl,SqT.of hx,hw,fun p hp=>q p _ (Same.new hp) ai⟩
end
end L2
end
section
namespace K56
open K1
open PySem L2
def top(i:Nat):Stmt:=PySem.Challenge.pw_seamwright_k56_side_by_side_and_prisms.main.body.getD i (.Pass ⟨0,0,0,0⟩)
abbrev rG:Stmt:=top 16
abbrev li:Stmt:=top 17
abbrev fm:Stmt:=top 18
abbrev ol:Stmt:=top 19
abbrev sAll:Stmt:=top 20
abbrev rL:Stmt:=top 24
structure Bt(mg:Str->Option Value):Prop where
 len:mg "len"=none
 all:mg "all"=none
 zip:mg "zip"=none
 sorted:mg "sorted"=none
 set:mg "set"=none
 list:mg "list"=none
 tuple:mg "tuple"=none
 range:mg "range"=none
 enumerate:mg "enumerate"=none
 int:mg "int"=none
 isinstance:mg "isinstance"=none
 reversed:mg "reversed"=none
 bool:mg "bool"=none
 dict:mg "dict"=none
def zM:AX "len"=some (.builtin "len"):=δ
def j':AX "all"=some (.builtin "all"):=δ
def Ky:AX "zip"=some (.type "zip"):=δ
def gD:AX "sorted"=some (.builtin "sorted"):=δ
def ia:AX "set"=some (.type "set"):=δ
def eY:AX "list"=some (.type "list"):=δ
def gG:AX "tuple"=some (.type "tuple"):=δ
def Kz:AX "enumerate"=some (.type "enumerate"):=δ
def E8:AX "int"=some (.type "int"):=δ
def zT:AX "isinstance"=some (.builtin "isinstance"):=δ
def KA:AX "reversed"=some (.type "reversed"):=δ
def ig:AX "dict"=some (.type "dict"):=δ
def E9:AX "bool"=some (.type "bool"):=δ
def zf{n:Nat}(h:n<=100000):n<=sizeLine:=by rw[sizeLine_eq];omega
def e_{n:Nat}(h:n<=100000):n<sizeLine:=by rw[sizeLine_eq];omega
def KB(x:Int)(r:List Int):atI ((x::r).map V.int) (-1)=some (.int ((x::r).getLastD 0)):=by
 obtain⟨q,z,e⟩:∃q z,x::r=q++[z]:=⟨(x::r).dropLast,(x::r).getLast (List.cons_ne_nil x r),(List.dropLast_concat_getLast (List.cons_ne_nil x r)).symm⟩;rw[e,Am,List.getLastD_eq_getLast?,List.getLast?_append];exact DH _ _
def ii{ps:List Int}{i:Nat}{x:V}(h:(ps.map V.int)[i]?=some x):∃p,ps[i]?=some p/\x=.int p:=by
 rw[Ai] at h;cases e:ps[i]? with
 |none=>rw[e] at h;cases h
 |some p=>rw[e] at h;exact⟨p,rfl,(An h).symm⟩
def zR{as:List Addr}{i:Nat}{x:V}(h:(as.map V.ref)[i]?=some x):∃a,as[i]?=some a/\x=.ref a:=by
 rw[Ai] at h;cases e:as[i]? with
 |none=>rw[e] at h;cases h
 |some p=>rw[e] at h;exact⟨p,rfl,(An h).symm⟩
def AM{a:Type}{l:List a}{i:Nat}{x:a}(h:l[i]?=some x):l.take (i+1)=l.take i++[x]:=by rw[List.take_add_one,h];rfl
def take_all{a:Type}(l:List a):l.take l.length=l:=Az (Ag _)
def B1(x:Int)(r:List Int):br ((x::r).map V.int) (some 1) none=r.map V.int:=by
 unfold br;have e:HT.sIx ((x::r).map V.int).length 0 (some 1)=1:=by
  have:=HT.nj ((x::r).map V.int).length 0 1;rw[show((1:Nat):Int)=1 from rfl] at this;rw[this,Ab,Au];omega
 rw[e,HT.qO];show List.take _ (r.map V.int)=_;rw[Az (by simp)]
section
variable{P:Program}{w:World}{K:Ae}{mg:Str->Option Value}{base:Heap}
def E_:Sp:=fun vs H Q _=>∃a ps,vs=[.ref a]/\Tp H a ps/\∀H',Same H H'->Q (.bl (zY ps)) H'
def KC:zn ["numbers"] ["numbers"] (zb rG):=⟨rfl,rfl,rfl,δ,rfl,δ,δ⟩
def KD{f:Addr}{fd:FuncData}{X Y:Tok}(F:Fun K "is_piece" "is_piece" rG f fd)(B:Bt mg)(Z:mg "MOST_POINTS"=some (.int 5 X))(oU:mg "LAST_POINT"=some (.int 99 Y)):FnOk P w K mg base aw 1 f fd ["numbers"] E_:=by
 refine F.ok KC (fun vs H Q E h=>?_) (fun cdv A outer s H vs Q E hr h=>?_)
 ·obtain⟨a,ps,rfl,_⟩:=h;rfl
 ·obtain⟨a,ps,rfl,o,k⟩:=h
  refine⟨_,za (zN (eL (Iz qD qD ze (zh zi rfl B.len zM (ac (pv 0) al)) (kF rfl Z (v:=.int 5) ⟨_,rfl⟩))) (zd (zr dc)) zv)
   (za (zN (PW.pt (kK (zo kO (zI eR (pv 0) ze (fun _ _=>rfl)) ze (aq _)) (my (zo ix (zI eR (pv 0) (qq qz ze) (fun _ _=>rfl)) (kF rfl oU (v:=.int 99) ⟨_,rfl⟩) (aq _))))) (zd (zr dc)) zv)
   (zd (zr (zh (jX rfl) rfl B.all j' (ac
    (zw ["numbers"] ["low","high"] [none,none] (JO rfl B.zip Ky (ac (pv 0) (ac (jT DE (pv 0) (jS ze) jR) al)))
     (fun L C s₀ H₀ ex=>mS rfl (fX (zk (i:=0) (bR ["low","high"]) rfl (Or.inl rfl)) (fX (zk (i:=1) (bR ["low","high"]) rfl (Or.inl rfl)) mQ)))
     (fun L C s₀ H₀ ex=>zH) (fun L C s₀ H₀ ex=>hG kO (pv 0) (pv 1) (aq _)) (hfr:=bN δ) (g:=jM K 2 (mP (cA 0) (mP (cA 1) jK)))) al))))),?_⟩
  have y:zY ps=false->Q (.bl false) H:=fun e=>by have:=k H (Same.refl H);rw[e] at this;exact this
  refine⟨_,rfl,a,_,rfl,.inr (SqT.of o),_,_,rfl,rfl,_,rfl,?_⟩;rw[Ab];refine bc (fun h1=>?_) (fun h1=>?_)
  ·refine⟨_,_,rfl,rfl,_,rfl,?_⟩
   have c:1<=ps.length:=by have:=of_decide_eq_true h1;omega
   cases h5:decide ((ps.length:Int)<=5) with
   |false=>
    have d:¬ps.length<=5:=by have:=of_decide_eq_false h5;omega
    exact aX (y (by unfold zY;rw[decide_eq_false d];simp))
   |true=>
    have d:ps.length<=5:=by have:=of_decide_eq_true h5;omega
    refine aH ?_;obtain⟨x,r,rfl⟩:∃x r,ps=x::r:=by
     cases ps with
     |nil=>simp at c
     |cons x r=>exact⟨x,r,rfl⟩
    refine⟨_,rfl,a,_,_,_,rfl,rfl,SqT.of o,zu (j:=0) rfl,_,_,rfl,rfl,_,rfl,?_⟩;refine bc (fun hx=>?_) (fun hx=>?_)
    ·refine aX (y ?_)
     unfold zY;rw[show decide ((x::r).headD 0<0)=true from hx];simp
    ·refine⟨_,rfl,_,rfl,a,_,_,_,rfl,rfl,SqT.of o,KB x r,_,_,rfl,rfl,_,rfl,?_⟩
     cases hl:decide (99<(x::r).getLastD 0) with
     |true=>
      refine aX (y ?_);unfold zY;rw[hl];simp
     |false=>
      refine aH ?_;refine⟨_,rfl,_,rfl,_,rfl,a,_,rfl,SqT.of o,?_,fun p hp=>?_⟩
      ·intro z
       have e:=HT.nj ((x::r).map V.int).length 0 1;rw[show((1:Nat):Int)=1 from rfl,z.1,Ab,Au] at e;omega
      ·rw[B1]
       have J:Same H (upd H p (.tup (r.map V.int))):=Same.new hp;refine⟨a,p,rfl,⟨_,SqT.of (J.tp o)⟩,⟨_,SqT.of ai⟩,fun D M=>?_⟩;have hm:min ((x::r).map V.int).length (r.map V.int).length=r.length:=by simp
       refine zy (JT (K:=K) (xs:=(x::r).map V.int) (ys:=r.map V.int) (fun i σ zs u=>∃G I,σ=[G,I]/\Same (upd H p (.tup (r.map V.int))) u/\u D=some (.lst zs)/\zs=((((x::r).zip r).map fun q=>decide (q.1<q.2)).take i).map V.bl)
        ⟨none,none,rfl,Same.new M,ai,rfl⟩ (fun i σ zs u ⟨_,_,_,l,_⟩=>⟨SqT.of (l.tp (J.tp o)),SqT.of (l _ _ ai)⟩) ?_ ?_)
       ·rintro i σ zs u S y1 y2 e1 e2 hi hz ⟨G,I,rfl,l,b,rfl⟩ N
        obtain⟨T,g1,rfl⟩:=ii e1;obtain⟨U,g2,rfl⟩:=ii e2;refine⟨S,_,rfl,SqT.of ai,rfl,_,_,rfl,_,_,rfl,rfl,j9 ?_⟩;refine⟨_,rfl,_,rfl,_,_,rfl,rfl,a9 (AO (Nat.min_le_right _ _) (by rw[Ab];exact zf (by simp at d;omega))) hi hz (by rw[zl (zg b N)];exact b) ⟨_,_,rfl,?_,ai,?_⟩⟩
        ·exact(l.then (l.free N)).then M
        ·have e3:(((x::r).zip r).map fun q=>decide (q.1<q.2))[i]?=some (decide (T<U)):=by
          rw[Ai,bg.bC,g1,g2];rfl
         rw[AM e3,Am];rfl
       ·rintro σ zs u ⟨G,I,rfl,l,b,rfl⟩
        refine⟨D,(((x::r).zip r).map fun q=>decide (q.1<q.2)),rfl,SqL.of ?_,?_⟩
        ·rw[b,hm,Az (by simp)]
        ·have:=k u (J.trans l)
         have O:=E2 (x::r);rw[show(x::r).drop 1=r from rfl] at O;rw[O];have W:zY (x::r)=aV (x::r):=by
          unfold zY;rw[decide_eq_true c,decide_eq_true d,hl];rw[show decide ((x::r).headD 0<0)=false from by simpa using hx]
          rfl
         rw[W] at this;exact this
  ·refine⟨_,rfl,aX (y ?_)⟩
   have c:¬1<=ps.length:=fun z=>h1 (decide_eq_true ω);unfold zY;rw[decide_eq_false c]
   rfl
end
end K56
end
section
namespace K56
open K1
open PySem L2
section
variable{P:Program}{w:World}{K:Ae}{mg:Str->Option Value}{base:Heap}
def rN:Sp:=fun vs H Q _=>∃a ps,vs=[.ref a]/\Tp H a ps/\ps.length<=5/\∀D as H',Same H H'->H D=none->H' D=some (.lst (as.map V.ref))->Tps H' as (parts ps)->Q (.ref D) H'
def rP:zn ["piece","found","point"] ["piece"] (zb li):=⟨rfl,rfl,rfl,δ,rfl,δ,δ⟩
def fo{n:Nat}(h:n<=5):2 ^ n<=32:=by
 have:2 ^ n<=2 ^ 5:=Nat.pow_le_pow_right ξ h;exact this
def E'{H2:Hp}{as:List Addr}{fs:Ξ}{q:Int}{D:Addr}{l:Addr}{Q:VK}(G:H2 l=some (.lst (as.map V.ref)))(s:Tps H2 as fs)(hz:as.length<=100)(H:∀f∈fs,f.length<=100)(u:H2 D=none)(k:∀bs b,Same H2 b->b D=some (.lst (bs.map V.ref))->Tps b bs (fs.map (·++[q]))->Q (.ref D) b):cG (dv K l) (cA 0) ci (cb Ep (ax 0) (dq (zJ (ax 1) a8))) [none,some (.int q)] H2 D Q:=by
 have E:=s.length;refine zG (xs:=as.map V.ref) (fun j σ ys b=>∃bs v,σ=[v,some (.int q)]/\Same H2 b/\b D=some (.lst ys)/\ys=bs.map V.ref/\Tps b bs ((fs.take j).map (·++[q]))) ?_ ?_ ?_ ?_
 ·exact⟨[],none,rfl,Same.new u,ai,rfl,.nil⟩
 ·rintro j σ ys b ⟨bs,v,rfl,g,d,rfl,hb⟩
  exact SqL.of (g _ _ G)
 ·rintro j σ ys b x hx A hy ⟨bs,v,rfl,g,d,rfl,hb⟩
  obtain⟨a,C,rfl⟩:=zR hx;obtain⟨f,o,hf⟩:=s.get C;refine cJ ?_;refine⟨_,rfl,_,rfl,zf (by simp),fun t w=>?_⟩;have F:=g.tp hf;have r:Same b (upd b t (.tup [.int q])):=Same.new w;refine⟨a,t,_,_,rfl,rfl,r _ _ F,ai,?_,fun p i y hp=>?_⟩
  ·rw[Ab]
   exact zf (by have:=H f (Ap o);simp;omega)
  ·have h:Same b i:=r.trans y
   refine a9 (ys:=bs.map V.ref) (by rw[Ab];exact zf ω) A hy (h _ _ d) ⟨bs++[p],_,rfl,(g.trans h).then u,ai,by rw[Am];rfl,?_⟩;rw[AM o,Am];have I:p≠D:=a0 hp (h _ _ d) (by intro z;cases z);have keep:∀c xs,i c=some (.tup xs)->upd i D (.lst (bs.map V.ref++[V.ref p])) c=some (.tup xs):=fun c xs e=>by
    rw[zl (a0 e (h _ _ d) (by intro z;cases z))];exact e
   refine Tps.snoc (Paired.mapP (h.tps hb) fun c xs e=>keep c _ e) (keep p _ ?_);rw[hp,Am];rfl
 ·rintro σ ys b ⟨bs,v,rfl,g,d,rfl,hb⟩
  rw[Ab,E,take_all] at hb;exact k bs b g d hb
def KF{f:Addr}{fd:FuncData}(F:Fun K "parts_of" "parts_of" li f fd):FnOk P w K mg base aw 1 f fd ["piece"] rN:=by
 refine F.ok rP (fun vs H Q E h=>?_) (fun cdv A outer s H vs Q E hr h=>?_)
 ·obtain⟨a,ps,rfl,_⟩:=h;rfl
 ·obtain⟨a,ps,rfl,y,T,k⟩:=h
  refine⟨_,za (zp (i:=1) rP.nd rfl (Or.inl rfl) (zQ (ac (fQ al) al)))
   (za (zZ AU rfl (iq (pv 0)) (zk (i:=2) rP.nd rfl (Or.inr rfl))
    (zd (zp (i:=1) rP.nd rfl (Or.inl rfl) (zD fR (pv 1) (zw ["piece","found","point"] ["part","point"] [none,some 2] (zA (pv 1)) (fun r C s₀ H₀ ex=>zk (i:=0) (bR ["part","point"]) rfl (Or.inl rfl)) (fun r C s₀ H₀ ex=>zH)
     (fun r C s₀ H₀ ex=>zD Er (pv 0) (fQ (ac (pv 1) al))) (hfr:=bO (zb li) δ))))))
   (zd (zr (jT qR (pv 1) (jS ze) jR)))),?_⟩
  refine⟨zf (by simp),fun e he=>⟨zf (by simp),fun l b=>?_⟩⟩;have z:Same H (upd (upd H e (.tup [])) l (.lst [.ref e])):=(Same.new he).then ((Same.new he).free b);have M:e≠l:=zg (H:=upd H e (.tup [])) ai b;refine⟨_,rfl,a,rfl,⟨_,SqT.of (z _ _ y)⟩,Dj (K:=K) (a:=a) (xs:=ps.map V.int) (fun i σ H2=>∃l as v,σ=[some (.ref a),some (.ref l),v]/\Same H H2/\H l=none/\H2 l=some (.lst (as.map V.ref))/\Tps H2 as (subs (ps.take i)))
   ⟨l,[e],none,rfl,z,(Same.new he).free b,ai,.cons (by show upd _ _ _ e=_;rw[zl M];exact ai) .nil⟩ (fun i σ H2 _ ⟨_,_,_,_,c,_⟩=>SqT.of (c _ _ y)) ?_ ?_⟩
  ·rintro i x σ H2 hx ⟨l,as,v,rfl,c,J,b,d⟩
   obtain⟨q,eq,rfl⟩:=ii hx;have hi:i<ps.length:=(List.getElem?_eq_some_iff.mp eq).1;have N:=d.length;have U:as.length<=32:=by
    rw[N,rF,AG];exact fo ω
   have hm:∀f∈subs (ps.take i),f.length<=100:=fun f hf=>by
    have:=E1 _ f hf;rw[AG] at this;omega
   refine⟨_,rfl,_,rfl,l,rfl,⟨_,SqL.of b⟩,fun D j=>zy (E' b d ω hm j fun bs W o p hb=>?_)⟩;have O:=hb.length;rw[Ab] at O;refine⟨l,D,_,_,rfl,rfl,o _ _ b,p,by rw[Ab,Ab];exact zf ω,fun u g=>?_⟩;have G:H u=none:=(c.trans o).free g;refine⟨u,as++bs,_,rfl,(c.trans o).then G,G,by rw[ai,Am],?_⟩;rw[AM eq,BJ];exact(Same.new g).tps ((o.tps d).append hb)
  ·rintro σ H2 ⟨l,as,v,rfl,c,J,b,d⟩
   rw[Ab,take_all] at d;refine⟨_,rfl,_,rfl,l,_,rfl,SqL.of b,fun D j=>?_⟩;have I:H D=none:=c.free j;obtain⟨t,L,_⟩:=BL ps;refine k D (as.drop 1) _ (c.then I) I ?_ ?_
   ·rw[ai]
    unfold br;have S:1<=as.length:=by rw[d.length,L];simp
    have e1:HT.sIx (as.map V.ref).length 0 (some 1)=1:=by
     have:=HT.nj (as.map V.ref).length 0 1;rw[show((1:Nat):Int)=1 from rfl] at this;rw[this,Ab];omega
    rw[e1,HT.qO,<-List.map_drop,Az (by simp)]
   ·exact(Same.new j).tps (d.drop 1)
def KG:zn ["piece"] ["piece"] (zb fm):=⟨rfl,rfl,rfl,δ,rfl,δ,δ⟩
def KH{f:Addr}{fd:FuncData}(F:Fun K "order_key" "order_key" fm f fd)(B:Bt mg):FnOk P w K mg base aw 1 f fd ["piece"] rn:=by
 refine F.ok KG (fun vs H Q E h=>?_) (fun cdv A outer s H vs Q E hr h=>?_)
 ·obtain⟨a,ps,rfl,_⟩:=h;rfl
 ·obtain⟨a,ps,rfl,b,k⟩:=h
  refine⟨_,zd (zr (fQ (ac (zh zi rfl B.len zM (ac (pv 0) al)) (ac (pv 0) al)))),?_⟩;refine⟨_,rfl,a,_,rfl,.inr (SqT.of b),_,rfl,zf (by simp),fun p hp=>?_⟩;rw[Ab];exact k p hp
def Fb(K:Ae):Sp:=fun vs H Q _=>∃l as pss,vs=[.ref l]/\SqL K H l (as.map V.ref)/\Tps H as pss/\pss.length<64/\
 ∀D H2(c:List (List Int×Addr)),Same H H2->H D=none->H2 D=some (.lst (c.map fun q=>V.ref q.2))->c.Perm (pss.zip as)->c.Pairwise (fun a b=>HT.lexLt ((b.1.length:Int)::b.1) ((a.1.length:Int)::a.1)=false)->Q (.ref D) H2
def KI:zn ["some"] ["some"] (zb ol):=⟨rfl,rfl,rfl,δ,rfl,δ,δ⟩
def KJ{f b:Addr}{fd c:FuncData}(F:Fun K "in_order" "in_order" ol f fd)(B:Bt mg)(i:Fun K "order_key" "order_key" fm b c)(bk:Binds K c ["piece"] [])(mk:mg "order_key"=some (.ref b)):FnOk P w K mg base aw 4 f fd ["some"] (Fb K):=by
 have g:FnOk P w K mg base aw 1 b c ["piece"] rn:=KH i B;refine F.ok KI (fun vs H Q E h=>?_) (fun cdv A outer s H vs Q E hr h=>?_)
 ·obtain⟨l,as,pss,rfl,_⟩:=h;rfl
 ·obtain⟨l,as,pss,rfl,d,e,a,k⟩:=h
  refine⟨_,zd (zr (J5 g hr bk rfl B.sorted gD rfl mk (ac (pv 0) al))),?_⟩;exact⟨_,rfl,l,as,pss,rfl,d,e,a,k⟩
end
end K56
end
section
namespace K56
open K1
open PySem L2 STb
def Tps.upd{H:Hp}{d:Addr}{o o':HO}{as:List Addr}{pss:Ξ}(h:Tps H as pss)(hd:H d=some o')(b:∀xs,o'≠.tup xs):Tps (L2.upd H d o) as pss:=
 Paired.mapP h fun a ps e=>by
  show L2.upd H d o a=_;rw[zl (a0 (show H a=some _ from e) hd fun z=>b _ z.symm)];exact e
def fu(seq:Ξ):List (List Key×V):=(dd seq).map fun ps=>((ps.map Sum.inl:List Key),V.bl true)
def Fc(seq:Ξ):(fu seq).length<=seq.length:=by unfold fu;rw[Ab];exact fj seq
def Fd(seq:Ξ)(ps:List Int):putK (fu seq) (ps.map Sum.inl) (.bl true)=fu (seq++[ps]):=by
 unfold putK fu;rw[hY];have a:(((dd seq).map fun ps=>((ps.map Sum.inl:List Key),V.bl true)).any fun kv=>decide (kv.1=ps.map Sum.inl))=decide (ps∈dd seq):=by
  rw[List.any_map]
  by_cases h:ps∈dd seq
  ·rw[decide_eq_true h,List.any_eq_true]
   exact⟨ps,h,by simp⟩
  ·rw[decide_eq_false h,List.any_eq_false]
   intro q hq;simp only[Function.comp,decide_eq_true_eq,hX];rintro rfl;exact h hq
 rw[a]
 by_cases h:ps∈dd seq
 ·rw[decide_eq_true h,if_pos rfl,if_pos h,At]
  refine A7 fun q hq=>?_;simp only[Function.comp];split<;>rfl
 ·rw[decide_eq_false h,if_neg (by simp),if_neg h,Am]
  rfl
def Fe{H:Hp}{seq:Ξ}{bs:List Addr}(h:Paired (fun(p:List Key×V) b=>H b=some (.tup (p.1.map kV))) (fu seq) bs):Tps H bs (dd seq):=by
 unfold fu at h;generalize dd seq=l at h
 induction l generalizing bs with
 |nil=>cases h;exact .nil
 |cons x l ih=>
  rw[Ax] at h;cases h with
  |cons r t=>
   refine .cons ?_ (ih t);show H _=_;rw[r,At]
   rfl
def B2(pss:Ξ)(h:∀ps∈pss,ps.length<=5):(pss.flatMap parts).length<=31*pss.length:=by
 induction pss with
 |nil=>simp
 |cons x l ih=>
  rw[List.flatMap_cons,As,lf,Au];have:=ih fun ps hp=>h ps (Ay _ hp);have:=fo (h x Av);omega
def Ff{pss:Ξ}{i:Nat}{ps:List Int}(h:pss[i]?=some ps):(pss.take (i+1)).flatMap parts=(pss.take i).flatMap parts++parts ps:=by
 rw[AM h,List.flatMap_append];simp
def Told(H H2:Hp)(pss:Ξ)(D:Addr)(c:List (List Int×Addr)):Prop:=
 Same H H2/\H D=none/\H2 D=some (.lst (c.map fun q=>V.ref q.2))/\(∀q∈c,Tp H2 q.2 q.1)/\(c.map (·.1)).Perm (dd (pss.flatMap parts))/\c.Pairwise (fun a b=>HT.lexLt ((b.1.length:Int)::b.1) ((a.1.length:Int)::a.1)=false)
section
variable{P:Program}{w:World}{K:Ae}{mg:Str->Option Value}{base:Heap}
def lj(K:Ae):Sp:=fun vs H Q _=>∃l as pss,vs=[.ref l]/\SqL K H l (as.map V.ref)/\Tps H as pss/\(∀ps∈pss,ps.length<=5)/\pss.length<=20/\(dd (pss.flatMap parts)).length<64/\∀D H2 a,Told H H2 pss D a->Q (.ref D) H2
def rX:zn ["some","found","piece","part"] ["some"] (zb sAll):=⟨rfl,rfl,rfl,δ,rfl,δ,δ⟩
def Fg{f fp S fk:Addr}{fd T U dO:FuncData}(F:Fun K "all_parts" "all_parts" sAll f fd)(B:Bt mg)(Fp:Fun K "parts_of" "parts_of" li fp T)(bp:Binds K T ["piece"] [])(mp:mg "parts_of"=some (.ref fp))(Fo:Fun K "in_order" "in_order" ol S U)(bo:Binds K U ["some"] [])(mo:mg "in_order"=some (.ref S))(Fk:Fun K "order_key" "order_key" fm fk dO)(bk:Binds K dO ["piece"] [])(mk:mg "order_key"=some (.ref fk)):FnOk P w K mg base aw 5 f fd ["some"] (lj K):=by
 have Gp:FnOk P w K mg base aw 1 fp T ["piece"] rN:=KF Fp;have Go:FnOk P w K mg base aw 4 S U ["some"] (Fb K):=KJ Fo B Fk bk mk;refine F.ok rX (fun vs H Q E h=>?_) (fun cdv A outer s H vs Q E hr h=>?_)
 ·obtain⟨l,as,pss,rfl,_⟩:=h;rfl
 ·obtain⟨l,as,pss,rfl,Y,Z,h5,cg,J,k⟩:=h
  have hu:=dr hr;have O:Room 1 _:=hr.mono ξ;refine⟨_,za (zp (i:=1) rX.nd rfl (Or.inl rfl) jV)
   (za (zZ AU rfl (zA (pv 0)) (zk (i:=2) rX.nd rfl (Or.inl rfl))
    (zd (zZ AU rfl (zA (zq Gp O rfl mp Fp.kp bp .nil am (ac (pv 2) al))) (zk (i:=3) rX.nd rfl (Or.inl rfl))
     (zd (hV hu (pv 1) (pv 3) dc rfl)))))
   (zd (zr (zq Go hr rfl mo Fo.kp bo .nil am (ac (zj (En rfl) rfl B.list eY (ac (pv 1) al)) al))))),?_⟩
  intro d hd;have aF:=Z.length;refine⟨_,rfl,l,rfl,⟨_,(Same.new hd).seq Y⟩,fG (K:=K) (a:=l) (xs:=as.map V.ref) (fun i σ H2=>∃v o,σ=[some (.ref l),some (.ref d),v,o]/\Same H H2/\H2 d=some (.dT (fu ((pss.take i).flatMap parts))))
   ⟨none,none,rfl,Same.new hd,ai⟩ (fun i σ H2 _ ⟨_,_,_,e,_⟩=>e.seq Y) ?_ ?_⟩
  ·rintro i x σ H2 hx ⟨v,o,rfl,e,y⟩
   obtain⟨a,ea,rfl⟩:=zR hx;obtain⟨ps,L,aM⟩:=Z.get ea;have dk:=h5 ps (Ap L);have hi:i<pss.length:=(List.getElem?_eq_some_iff.mp L).1;refine⟨_,rfl,a,ps,rfl,e.tp aM,dk,fun D cs H3 r dC u W=>⟨D,rfl,⟨_,SqL.of u⟩,?_⟩⟩;have n_:=W.length;have oC:D≠d:=a0 u (r _ _ y) (by intro z;cases z);refine fG (K:=K) (a:=D) (xs:=cs.map V.ref) (fun j σ p=>∃o,σ=[some (.ref l),some (.ref d),some (.ref a),o]/\Same H p/\p D=some (.lst (cs.map V.ref))/\Tps p cs (parts ps)/\p d=some (.dT (fu ((pss.take i).flatMap parts++(parts ps).take j))))
    ⟨_,rfl,e.trans r,u,W,by rw[List.take_zero,List.append_nil];exact r _ _ y⟩ (fun j σ p _ ⟨_,_,_,q,_⟩=>SqL.of q) ?_ ?_
   ·rintro j x σ p hx ⟨o,rfl,M,a7,N,C⟩
    obtain⟨c,ec,rfl⟩:=zR hx;obtain⟨f,ef,hf⟩:=N.get ec;have G:(fu ((pss.take i).flatMap parts++(parts ps).take j)).length<sizeLine:=by
     refine e_ (AO (Fc _) ?_);rw[As];have h1:=B2 (pss.take i) (fun q hq=>h5 q (List.mem_of_mem_take hq));have h2:=lf ps;have h3:=fo dk;rw[AG] at h1 ⊢;omega
    refine⟨_,rfl,_,rfl,d,_,rfl,DPut.t (k:=f.map Sum.inl) C (by rw[At];exact hf) G,⟨_,rfl,M.then hd,?_,?_,?_⟩⟩
    ·rw[zl oC];exact a7
    ·exact Tps.upd N C (by intro xs z;cases z)
    ·rw[ai,Fd,List.append_assoc,<-AM ef]
   ·rintro σ p ⟨o,rfl,M,a7,N,C⟩
    refine⟨_,_,rfl,M,?_⟩;rw[Ab,n_,take_all] at C;rw[Ff L];exact C
  ·rintro σ H2 ⟨v,o,rfl,e,y⟩
   rw[Ab,aF,take_all] at y;refine⟨_,rfl,d,_,rfl,y,fun bs hb X g=>?_⟩;have tb:=Fe hb;have jc:=tb.length;refine⟨X,bs,dd (pss.flatMap parts),rfl,SqL.of ai,(Same.new g).tps tb,J,fun D H3 qs r u I hp hs=>?_⟩;have iu:H X=none:=e.free g;refine k D H3 qs ⟨(e.then iu).trans r,(e.then iu).free u,I,fun q hq=>?_,?_,hs⟩
   ·obtain⟨m,em⟩:=List.mem_iff_getElem?.mp (hp.mem_iff.mp hq)
    rw[bg.bC] at em;cases e1:(dd (pss.flatMap parts))[m]? with
    |none=>rw[e1] at em;cases em
    |some f=>
     cases e2:bs[m]? with
     |none=>rw[e1,e2] at em;cases em
     |some b=>
      rw[e1,e2] at em;obtain rfl:(f,b)=q:=An em;exact r.tp ((Same.new g).tp (rm tb m b f e2 e1))
   ·have:=hp.map (·.1)
    rw[List.map_fst_zip ω] at this;exact this
def Fh(K:Ae):Sp:=fun vs H Q _=>∃l as pss,vs=[.ref l]/\SqL K H l (as.map V.ref)/\Tps H as pss/\(pss.all zY=true->(dd (pss.flatMap parts)).length<64)/\∀H',Same H H'->Q (.bl (bI pss)) H'
def KL:zn ["web"] ["web"] (zb rL):=⟨rfl,rfl,rfl,δ,rfl,δ,δ⟩
def KM{f J fa fp X Y:Addr}{fd L M Z fP dO:FuncData}{t5 nA N ou:Tok}(F:Fun K "is_web" "is_web" rL f fd)(B:Bt mg)(m5:mg "MOST_POINTS"=some (.int 5 t5))(oU:mg "LAST_POINT"=some (.int 99 nA))(k6:mg "MOST_HANDED"=some (.int 20 N))(mq:mg "MOST_PIECES"=some (.int 200 ou))(Fi:Fun K "is_piece" "is_piece" rG J L)(bi:Binds K L ["numbers"] [])(mi:mg "is_piece"=some (.ref J))(Fa:Fun K "all_parts" "all_parts" sAll fa M)(ba:Binds K M ["some"] [])(ma:mg "all_parts"=some (.ref fa))(Fp:Fun K "parts_of" "parts_of" li fp Z)(bp:Binds K Z ["piece"] [])(mp:mg "parts_of"=some (.ref fp))(Fo:Fun K "in_order" "in_order" ol X fP)(bo:Binds K fP ["some"] [])(mo:mg "in_order"=some (.ref X))(Fk:Fun K "order_key" "order_key" fm Y dO)(bk:Binds K dO ["piece"] [])(mk:mg "order_key"=some (.ref Y)):FnOk P w K mg base aw 6 f fd ["web"] (Fh K):=by
 have Gi:FnOk P w K mg base aw 1 J L ["numbers"] E_:=KD Fi B m5 oU;have Ga:FnOk P w K mg base aw 5 fa M ["some"] (lj K):=Fg Fa B Fp bp mp Fo bo mo Fk bk mk;refine F.ok KL (fun vs H Q E h=>?_) (fun cdv A outer s H vs Q E hr h=>?_)
 ·obtain⟨l,as,pss,rfl,_⟩:=h;rfl
 ·obtain⟨l,as,pss,rfl,g,r,y,k⟩:=h
  have av:=hr.units;have G:Room 1 _:=hr.mono ξ;refine⟨_,za (zN (zo ix (zh zi rfl B.len zM (ac (pv 0) al)) (kF rfl k6 (v:=.int 20) ⟨_,rfl⟩) (aq _)) (zd (zr dc)) zv)
   (za (zN (eL (fg (zh (jX rfl) rfl B.all j' (ac
    (zw ["web"] ["numbers"] [none] (zA (pv 0)) (fun O C s₀ H₀ ex=>zk (i:=0) (bR ["numbers"]) rfl (Or.inl rfl)) (fun O C s₀ H₀ ex=>zH)
     (fun O C s₀ H₀ ex=>zq Gi G rfl mi Fi.kp bi .nil am (ac (pv 0) al)) (hfr:=bN δ)) al)))) (zd (zr dc)) zv)
   (za (zN (zo kO (zh Kq rfl B.len zM (ac (zj (Kp rfl av) rfl B.set ia (ac (pv 0) al)) al)) (zh zi rfl B.len zM (ac (pv 0) al)) (aq _)) (zd (zr dc)) zv)
   (zd (zr (hG qD (zh zi rfl B.len zM (ac (zq Ga hr rfl ma Fa.kp ba .nil am (ac (pv 0) al)) al)) (kF rfl mq (v:=.int 200) ⟨_,rfl⟩) (aq _)))))),?_⟩
  have U:=r.length;refine⟨_,rfl,l,_,rfl,.inl g,_,_,rfl,rfl,_,rfl,?_⟩;rw[Ab];refine bc (fun h1=>?_) (fun h1=>?_)
  ·have:=k H (Same.refl H)
   rw[Kw pss (by have:=of_decide_eq_true h1;omega)] at this;exact this
  ·have W:pss.length<=20:=by
    have:¬((20:Int)<as.length):=fun z=>h1 (decide_eq_true z);omega
   refine⟨_,rfl,l,rfl,⟨_,g⟩,fun D T=>zy (zG (K:=K) (a:=l) (xs:=as.map V.ref) (fun i σ ys d=>∃v,σ=[v]/\Same H d/\d D=some (.lst ys)/\ys=((pss.map zY).take i).map V.bl)
    ⟨none,rfl,Same.new T,ai,rfl⟩ (fun i σ ys d ⟨_,_,b,_⟩=>b.seq g) ?_ ?_)⟩
   ·rintro i σ ys d x hx hi hy ⟨v,rfl,b,c,rfl⟩
    obtain⟨a,ea,rfl⟩:=zR hx;obtain⟨ps,aA,u⟩:=r.get ea;refine cJ ?_;refine⟨_,rfl,a,ps,rfl,b.tp u,fun H4 p=>a9 (by rw[Ab];exact zf ω) hi hy (p _ _ c) ⟨_,rfl,(b.trans p).then T,ai,?_⟩⟩;have e:(pss.map zY)[i]?=some (zY ps):=by rw[Ai,aA];rfl
    rw[AM e,Am];rfl
   ·rintro σ ys d ⟨v,rfl,b,c,rfl⟩
    rw[Ab,U,Az (by simp)] at c;refine⟨D,pss.map zY,rfl,SqL.of c,_,rfl,?_⟩;have mG:(pss.map zY).all id=pss.all zY:=by rw[List.all_map];rfl
    rw[mG];cases hp:pss.all zY with
    |false=>
     refine aX ?_;have:=k d b;rw[show bI pss=false from by unfold bI;rw[hp];simp] at this;exact this
    |true=>
     refine aH ?_;refine⟨_,rfl,l,as,pss,rfl,b.seq g,b.tps r,ω,fun S hS=>?_⟩;have j:Same H (upd d S (gA S (dd pss).length)):=b.then (b.free hS);refine⟨S,_,rfl,ai,_,rfl,l,_,rfl,.inl (j.seq g),_,_,rfl,rfl,_,rfl,?_⟩;rw[Ab,U];refine bc (fun h2=>?_) (fun h2=>?_)
     ·have I:(dd pss).length<pss.length:=by have:=of_decide_eq_true h2;omega
      have:=k _ j;rw[show bI pss=false from by unfold bI;rw[decide_eq_true I];simp] at this;exact this
     ·have I:¬(dd pss).length<pss.length:=fun z=>h2 (decide_eq_true ω)
      refine⟨_,rfl,l,as,pss,rfl,j.seq g,j.tps r,fun ps u=>?_,W,y hp,fun D2 H4 qs ⟨p,_,a7,_,aW,_⟩=>?_⟩
      ·have:=List.all_eq_true.mp hp ps u
       unfold zY at this;simp only[AN,decide_eq_true_eq] at this;exact this.1.1.1.2
      ·refine⟨D2,_,rfl,.inl (SqL.of a7),_,_,rfl,rfl,?_⟩
       have o:(qs.map fun q=>V.ref q.2).length=(dd (pss.flatMap parts)).length:=by
        rw[Ab,<-aW.length_eq,Ab]
       rw[o];have:=k H4 (j.trans p);have e:bI pss=decide (((dd (pss.flatMap parts)).length:Int)<=200):=by
        unfold bI;rw[hp,decide_eq_true W,decide_eq_false I]
        by_cases q:(dd (pss.flatMap parts)).length<=200
        ·rw[decide_eq_true q,decide_eq_true (show((dd (pss.flatMap parts)).length:Int)<=200 from ω)];rfl
        ·rw[decide_eq_false q,decide_eq_false (show ¬((dd (pss.flatMap parts)).length:Int)<=200 from ω)];rfl
       rw[e] at this;exact this
end
end K56
end
section
namespace L2
open PySem PySem.Spec PyProof.Rows
section
variable{X:Cx}
def rY(v d:Addr):HO:=.ext fun h=>h.IsValuesView v d
end
end L2
end
section
namespace Dk
open PySem PySem.Spec PyProof.Rows
section
variable{prog:Program}{w:World}{A:Around}{E:Ω}{s:Shared}{it d v:Addr}{i ep:Nat}{es:Array DictEntry}
def ot{Q:Ω}(a:s.heap.IsValuesView v d)(hm:IsD s.heap d es ep)(h:Q (.ref s⁻¹) {s with heap:=s.heap.push {cls:=.type "dict_valueiterator",data:=.fields #[.ref d,.int 0 0,.int es.size 0,.int ep 0]}}):wpAny (model prog w) A (pyIter (.ref v)) Q E s:=by
 obtain⟨i,e,j,f⟩:=id a;obtain⟨o,b,hc,c⟩:=id hm;refine wpAny_pyIter_slot a.typeIs PySem.F.slot_dict_values_iter (AC PySem.F.slot_dict_values_iter a.typeIs PySem.F.entry_dict_values_iter ?_ (PySem.F.args_dict_values_iter_1 _));unfold Builtin.«dict_values.__iter__»;refine Aa (Ac ?_);refine Aa ?_;unfold Builtin.Dict_items.dictOf;refine Aa (AT e f (x:=.ref d) rfl (Ac ?_));refine Aa ?_;unfold Builtin.Dict_items.newIterator;refine Aa (AD b c ?_);refine Aa (wpAny_dictEpoch b c ?_);have g:Builtin.Dict_items.ownsTuple "dict_valueiterator"=false:=ξ
 simp only[g,Ah,if_false];refine AF (Ac ⟨_,rfl,"dict_valueiterator",_,⟨_,Al _ rfl,rfl⟩,PySem.F.slot_dict_valueiterator_next.lookup,?_⟩)
 simpa[rawInt] using h
def ow{Q:Option Value->Shared->Prop}(a:s.heap.IsValIter it d i es.size ep)(hm:IsD s.heap d es ep)(hx:i<es.size)(h:∀h',h'.IsValIter it d (i+1) es.size ep->AQ it s.heap h'->Q (some es[i].val) {s with heap:=h'}):wpAny (model prog w) A (pyNext (.ref it)) Q E s:=by
 obtain⟨o,b,hc,hd⟩:=id a;obtain⟨j,e,l,f⟩:=id hm;unfold pyNext;refine Aa (wpAny_attempt (AS (name:=Bm "__next__") a.typeIs PySem.F.slot_dict_valueiterator_next
  (AC PySem.F.slot_dict_valueiterator_next a.typeIs PySem.F.entry_dict_valueiterator_next ?_ (PySem.F.args_dict_valueiterator_next_1 _))))
 refine Aa (Ac ?_);refine Aa ?_;refine Aa ?_
 first|refine Aa (wpAny_typeNameOfWhole_valiter a.typeIs (Ac ?_))|refine Aa (wpAny_typeNameOf_valiter a.typeIs (Ac ?_))
 refine Aa (wpAny_fieldsOf b hd ?_);have g:Builtin.Dict_items.ownsTuple "dict_valueiterator"=false:=ξ
 simp only[g,Ah,if_false];show wpAny _ _ (if(Value.ref d==Value.none)=true then _ else _) _ _ s;rw[if_neg (show ¬((Value.ref d==Value.none)=true) from Aq)];refine Aa (Ac ?_);refine Aa (AD e f ?_);rw[if_neg (by simp)];refine Aa (Ac ?_);refine Aa (wpAny_dictEpoch e f ?_);rw[if_neg (by simp)];refine Ac ?_;simp only[show ¬((i:Int)<0) from ω,if_false,Bg,Array.getElem?_eq_getElem hx];refine Aa ?_
 first|refine Aa (wpAny_typeNameOfWhole_valiter a.typeIs (Ac ?_))|refine Aa (wpAny_typeNameOf_valiter a.typeIs (Ac ?_))
 refine Aa (wpAny_isOneOf_valiter a.typeIs ?_);show wpAny _ _ (setField (.ref it) 1 (rawInt ((i:Int)+1)) >>= _) _ _ s;refine Aa (Bk b hd (by simp) ?_);have c:(s.heap.update it (Obj.mapFields (·.setIfInBounds 1 (rawInt ((i:Int)+1))))).IsValIter it d (i+1) es.size ep:=
  ⟨_,A5 _ b (Obj.isFreed_of_fields (A1 hd _)),(Obj.cls_mapFields ..).trans hc,by rw[A1 hd];simp[rawInt]⟩
 refine Aa (AA ?_);refine Aa (wpAny_isOneOf_valiter (s:={s with heap:=s.heap.update it (Obj.mapFields (·.setIfInBounds 1 (rawInt ((i:Int)+1))))}) c.typeIs ?_);refine Aa (wpAny_isOneOf_valiter (s:={s with heap:=s.heap.update it (Obj.mapFields (·.setIfInBounds 1 (rawInt ((i:Int)+1))))}) c.typeIs ?_);show wpAny _ _ (pure es[i].val) _ _ _;exact Ac (Ac ⟨_,rfl,Ac (h _ c (AL ..))⟩)
def oy{Q:Option Value->Shared->Prop}(i:A.handled=none)(c:s.heap.IsValIter it d es.size es.size ep)(hm:IsD s.heap d es ep)(j:∀h',Heap.ExtBut it s.heap h'->Q none {s with heap:=h'}):wpAny (model prog w) A (pyNext (.ref it)) Q E s:=by
 obtain⟨o,e,hc,hd⟩:=id c;obtain⟨l,f,p,g⟩:=id hm;unfold pyNext;refine Aa (wpAny_attempt (AS (name:=Bm "__next__") c.typeIs PySem.F.slot_dict_valueiterator_next
  (AC PySem.F.slot_dict_valueiterator_next c.typeIs PySem.F.entry_dict_valueiterator_next ?_ (PySem.F.args_dict_valueiterator_next_1 _))))
 refine Aa (Ac ?_);refine Aa ?_;refine Aa ?_
 first|refine Aa (wpAny_typeNameOfWhole_valiter c.typeIs (Ac ?_))|refine Aa (wpAny_typeNameOf_valiter c.typeIs (Ac ?_))
 refine Aa (wpAny_fieldsOf e hd ?_);have h:Builtin.Dict_items.ownsTuple "dict_valueiterator"=false:=ξ
 simp only[h,Ah,if_false];show wpAny _ _ (if(Value.ref d==Value.none)=true then _ else _) _ _ s;rw[if_neg (show ¬((Value.ref d==Value.none)=true) from Aq)];refine Aa (Ac ?_);refine Aa (AD f g ?_);rw[if_neg (by simp)];refine Aa (Ac ?_);refine Aa (wpAny_dictEpoch f g ?_);rw[if_neg (by simp)];refine Ac ?_;simp only[show ¬((es.size:Int)<0) from ω,if_false,Bg,Array.getElem?_eq_none (Ag es.size)];refine Aa ?_
 first|refine Aa (wpAny_typeNameOfWhole_valiter c.typeIs (Ac ?_))|refine Aa (wpAny_typeNameOf_valiter c.typeIs (Ac ?_))
 show wpAny _ _ (setField (.ref it) 0 .none >>= _) _ _ s;refine Aa (Bk e hd (by simp) ?_);show wpAny _ _ (newExc (.type "StopIteration") [] >>= _) _ _ _;refine Aa ?_;simp only[newExc,newTuple];refine Aa (AF ?_ (by size_fits));refine Aa (m:=firstArgMember _ _) (Bi (a:=Value.none) (by first|rfl|(simp only[firstArgMember];rfl)) ?_);refine AF ?_ (by size_fits);simp only[raiseNew];refine Aa (wpAny_handled ?_);rw[show A.in1.handled=none from i];refine Aa (Ac (wpAny_throw ?_));refine Aa (A8 (T:="StopIteration") (b:=true) ⟨_,Al _ rfl,rfl⟩ isSubtype_stop ?_);exact Ac (j _ (((AL ..).extBut.push _).push _))
end
end Dk
namespace L2
open PySem PySem.Spec PyProof.Rows
section
variable{X:Cx}
def r9(hc:X.calm=true):zU X (.type "list") (fun xs H Q=>∃a kvs,xs=[.ref a]/\Rd H a (.dT kvs)/\
  ∀(bs:List Addr),Paired (fun(p:List Key×V) b=>H b=some (.tup (p.1.map kV))) kvs bs->∀l,H l=none->Q (.ref l) (upd H l (.lst (bs.map V.ref)))):=by
 intro aa s σ H xs us Q I r h;obtain⟨a,kvs,rfl,hq,q⟩:=h;obtain⟨u,rfl,v⟩:=vals1 r;cases v;obtain⟨z,y,ys,c,o,es,ep,h1,h2,x,d,F⟩:=(show zB X.prog X.w H s.heap a (.dT kvs) from hq.ok I.hok);have f:es.size=kvs.length:=by
  have:=congrArg List.length d;rw[Ab,<-A2 c] at this
  simpa using this
 refine PySem.W.kdl_call (Dk.src (ep:=ep) (es:=es) y) (I.ok.hd hc) ⟨o,h1,h2,x⟩ (by rw[f];exact z) fun h' tk acc g j e it=>?_;obtain⟨n1,n2⟩:=it;have C:Paired (fun(p:List Key×V) b=>H b=some (.tup (p.1.map kV))) kvs (ys.map (·.2.1)):=by
  have:∀{l:List (List Key×V)}{m:List (List Key×Addr×Value)},KT H l m->Paired (fun(p:List Key×V) b=>H b=some (.tup (p.1.map kV))) l (m.map (·.2.1)):=by
   intro l m q
   induction q with
   |nil=>exact .nil
   |cons hq t ih=>exact .cons hq.2.1 ih
  exact this c
 have D:acc.toList=(ys.map (·.2.1)).map Value.ref:=by
  apply List.ext_getElem?;intro i;have hy:ys.length=acc.size:=by rw[n1,f];exact(A2 c).symm
  by_cases hi:i<acc.size
  ·obtain⟨A,g1,g2⟩:=n2 i acc[i] (by simp[hi])
   have g3:es.toList[i]?=some A:=by simpa using g1
   rw[d,Ai] at g3;have g4:ys[i]?=some ys[i]:=by simp[hy,hi]
   rw[g4] at g3;simp only[A6,Bd] at g3;simp only[Ai,g4,A6,AE,Array.getElem?_eq_getElem hi];rw[g2,<-g3]
   rfl
  ·have g1:acc.toList.length<=i:=by simp;omega
   have g2:((ys.map (·.2.1)).map Value.ref).length<=i:=by simp[hy];omega
   rw[List.getElem?_eq_none g1,List.getElem?_eq_none g2]
 have E:Vals ((ys.map (·.2.1)).map V.ref) acc.toList:=by
  rw[D];generalize ys.map (·.2.1)=bs
  induction bs with
  |nil=>exact .nil
  |cons b bs ih=>exact .cons rfl ih
 refine⟨.ref s⁻¹,_,I.laid j (Ag _) (show zB X.prog X.w _ h' _ (.lst ((ys.map (·.2.1)).map V.ref)) from⟨?_,acc.toList,g,E,by simpa using e⟩),rfl,q _ C _ (I.hok.fresh (Ag _))⟩;simp only[Ab];rw[<-A2 c];exact z
def zlB:V->List V->Hp->VK->Prop:=fun x vs H Q=>∃d kvs,x=.ref d/\vs=[]/\Rd H d (.dT kvs)/\∀v,H v=none->Q (.ref v) (upd H v (rY v d))
def gK:qQ X "dict.values" zlB:=by
 intro aa s σ H x vs v us Q I a e h;obtain⟨d,kvs,rfl,rfl,hd,q⟩:=h;cases a;obtain rfl:=e.zero;obtain⟨z,hs,ys,f,o,es,ep,h1,h2,j,l,r⟩:=(show zB X.prog X.w H s.heap d (.dT kvs) from hd.ok I.hok);have hT:s.TypeIs (.ref d) "dict":=⟨o,h1,h2.1⟩;have i:MeetsIn X.prog X.w (Builtin.«dict.values» ⟨[.ref d],[]⟩) (fun _ R s=>s.TypeIs (.ref d) "dict"/\R (.ok (.ret (.ref s⁻¹))) {s with heap:=s.heap.push {cls:=.type "dict_values",data:=.fields #[.ref d]}}):=
  .of_wp fun A R s ⟨hT,h⟩=>by
   refine Aa ?_;unfold Builtin.Dict.noArgs;refine Aa (wpAny_notOrdered_dict hT ?_);show wpAny _ _ (pure d) _ _ s;refine Ac ?_;show wpAny _ _ (Builtin.Dict.showsAll d >>= _) _ _ s;unfold Builtin.Dict.showsAll;rw[if_neg (by rw[hs];exact Aq)];refine Aa (Ac ?_);exact Aa (AF (Ac ⟨_,rfl,h⟩))
 refine call_meetsIn PySem.F.slot_dict_values hT PySem.F.entry_dict_values (PySem.F.args_dict_values_1 _) i ⟨hT,?_⟩;refine⟨.ref s⁻¹,_,I.laid (t':=s.toks) (o:=rY s⁻¹ d) (fun b ob q=>Ad _ q) (Ag _) ?_,rfl,q _ (I.hok.fresh (Ag _))⟩;refine⟨⟨_,Al _ rfl,rfl,rfl⟩,⟨_,Al _ rfl⟩,fun h1 h2 p k=>?_⟩;obtain⟨o,g,c⟩:=p;exact⟨o,k o g,c⟩
def B3(d:Addr)(o:Obj)(kvs:List (List Key×V)):It:=⟨fun i H=>i<kvs.length/\H d=some (.frz o (.dT kvs)),fun i H v H'=>H'=H/\∃kv,kvs[i]?=some kv/\v=kv.2,fun i H=>i=kvs.length/\H d=some (.frz o (.dT kvs))⟩
def KO{P:Program}{w:World}{K:Ae}{tg:Expr}(d it:Addr){o:Obj}{kvs:List (List Key×V)}{es:Array DictEntry}{ep:Nat}(hx:o.ExactDict)(r:o.data=.dict es ep)(hsz:es.size=kvs.length)(hk:∀(i:Nat)kv(hi:i<es.size),kvs[i]?=some kv->RelV kv.2 es[i].val):Turn P w K tg (B3 d o kvs) [it] it (fun i h=>h.IsValIter it d i es.size ep) where
 mem:=by simp
 obj:=fun i h st b hb=>by
  have e:b=it:=by simpa using hb
  subst e;obtain⟨o,e,c,dd⟩:=st;exact⟨o,e,fun v z=>by rw[dd] at z;cases z⟩
 keep:=fun i h h' st k=>by
  obtain⟨o,e,c⟩:=st;exact⟨o,k it (by simp) o e,c⟩
 item:=by
  intro X f hw g hc i aa s σ H E I hf st j;subst f hw g;obtain⟨f0,f1,f2,f3,f4,f5⟩:=hf it (by simp);obtain⟨hi,l⟩:=j;have hm:Dk.IsD s.heap d es ep:=⟨o,(show zB X.prog X.w H s.heap d (.frz o (.dT kvs)) from I.hok d _ l).1,hx,r⟩;have a:i<es.size:=by rw[hsz];exact hi
  refine Dk.ow st hm a fun h' p u=>?_;have y:Inv X aa σ H {s with heap:=h'}:=I.turned (t':=s.toks) (fun b o hb e=>(u.2 b hb).trans e) f0 f1 f3 f4 f5;obtain⟨C,e1,e2,e3⟩:=id p;have q:kvs[i]?=some kvs[i]:=Af hi;exact⟨_,rfl,jN (s:={s with heap:=h'}) e1 e2 e3 ξ ⟨kvs[i].2,H,y,hk i _ a q,⟨rfl,_,q,rfl⟩,p,fun b hb=>(hf b hb).1⟩⟩
 done:=by
  intro X f hw g hc i aa s σ H E I hf st j;subst f hw g;obtain⟨f0,f1,f2,f3,f4,f5⟩:=hf it (by simp);obtain⟨hi,l⟩:=j;have hm:Dk.IsD s.heap d es ep:=⟨o,(show zB X.prog X.w H s.heap d (.frz o (.dT kvs)) from I.hok d _ l).1,hx,r⟩;have a:i=es.size:=by rw[hsz];exact hi
  subst a;exact Dk.oy (I.ok.hd hc) st hm fun h' x=>⟨rfl,I.turned (t':=s.toks) (fun b o hb e=>x b o hb e) f0 f1 f3 f4 f5⟩
 self:=fun A i s Q E st h=>wpAny_pyIter_valiter st h
def KP(te:TE):TI:=fun σ H R=>te σ H fun x H1=>∃v d kvs,x=.ref v/\H1 v=some (rY v d)/\Rd H1 d (.dT kvs)/\∀o H2,H2 d=some (.frz o (.dT kvs))->(∀b,b≠d->H2 b=H1 b)->R (B3 d o kvs) H2
def Fj{H:Hp}:∀{l:List (List Key×V)}{m:List (List Key×Addr×Value)}{i:Nat}{kv:List Key×V},KT H l m->l[i]?=some kv->∃w,m[i]?=some w/\kv.1=w.1/\RelV kv.2 w.2.2
 |_,_,0,_,.cons h _,e=>by cases e;exact⟨_,rfl,h.1,h.2.2⟩
 |_,_,i+1,_,.cons _ t,e=>Fj (i:=i) t (by simpa using e)
def KQ{tg l:Expr}{tl:TE}(L:PE X l tl):PI X tg l (KP tl):=by
 intro aa s σ H R I h;refine aL (L aa s σ H _ I h) fun v a ⟨x,H1,I1,u,y⟩=>?_;obtain⟨v,d,kvs,e,E,hd,q⟩:=y;subst e;cases u;have J:a.heap.IsValuesView v d:=(show zB X.prog X.w H1 a.heap v (rY v d) from I1.hok v _ E).1;have go:∀(o:Obj)(H2:Hp),Inv X aa σ H2 a->H2 d=some (.frz o (.dT kvs))->(∀b,b≠d->H2 b=H1 b)->wpAny (model X.prog X.w) X.A (pyIter (.ref v)) (qm X aa σ tg R) X.xe a:=by
  intro o H2 I2 p C;obtain⟨F,z,hs,ys,c,o',es,ep,h1,h2,f,g,r⟩:=(show zB X.prog X.w H2 a.heap d (.frz o (.dT kvs)) from I2.hok d _ p);obtain rfl:o=o':=An (F.symm.trans h1);have hsz:es.size=kvs.length:=by
   have:=congrArg List.length g;rw[Ab,<-A2 c] at this
   simpa using this
  have hm:Dk.IsD a.heap d es ep:=⟨o,h1,h2,f⟩;refine Dk.ot J hm ?_;have hfr:H2 a⁻¹=none:=I2.hok.fresh (Ag _);refine⟨a⁻¹,[a⁻¹],_,_,_,rfl,I2.kept (t':=a.toks) fun b o e=>Ad _ e,KO d _ h2 f hsz (fun i kv hi e=>?_),⟨_,Al _ rfl,rfl,rfl⟩,fun b hb=>?_,q o H2 p C⟩
  ·obtain⟨M,G,g1,g2⟩:=Fj c e
   have g3:es.toList[i]?=some es[i]:=by simp[hi]
   rw[g,Ai,G] at g3;simp only[A6,Bd] at g3;rw[<-g3];exact g2
  ·have e:b=a⁻¹:=by simpa using hb
   subst e;exact I2.fpOk (Ag _) hfr
 rcases hd with hd|⟨o,hd⟩
 ·obtain⟨z,hs,ys,c,o,es,ep,h1,h2,f,g,r⟩:=(show zB X.prog X.w H1 a.heap d (.dT kvs) from I1.hok d _ hd)
  have j:KT (upd H1 d (.frz o (.dT kvs))) kvs ys:=KT.keeps c fun b zs e=>by rw[zl (fun D=>by rw[D,hd] at e;cases e)];exact e
  exact go o (upd H1 d (.frz o (.dT kvs))) (nz (ob:=.frz o (.dT kvs)) (t':=a.toks) I1 (by rw[hd];exact True.intro) (Heap.SameBut.refl _ _) ⟨o,h1⟩ ⟨h1,z,hs,ys,j,o,es,ep,h1,h2,f,g,r⟩) ai fun b hb=>zl hb
 ·exact go o H1 I1 hd fun _ _=>rfl
end
end L2
end
section
namespace DCp
open PySem
def B5:mroOf (.type "dict")=pure [.type "dict",.type "object"]:=by rw[mroOf_type];kernel_rfl
def KR:typeLookup (.type "dict") "__new__"=pure (some (.builtin "dict.__new__")):=by rw[typeLookup_type,builtinLookup_eq_fast];kernel_rfl
def zm:TypeCalled "dict" "dict.__new__" "dict.__init__":=
 ⟨δ,δ,⟨_,_,B5⟩,madeBy_type B5 KR δ,δ,by rw[isSubtype_type];kernel_rfl,PySem.F.slot_dict_init⟩
def B6(a:Value):checkTypeCall "dict" ⟨[a],[]⟩=pure ():=by kernel_rfl
def KS(a:Value):checkBuiltinCall "dict.__new__" ⟨[.type "dict",a],[]⟩=pure ():=by kernel_rfl
def KU:entryFor table "dict.__new__"=some Builtin.«dict.__new__»:=entryFor_of_tree (by kernel_rfl)
def Fm:plainId "dict.__new__"=true:=δ
def oz:isSubtype (.type "dict") (.type "dict")=pure true:=by rw[isSubtype_type];kernel_rfl
section
variable{prog:Program}{w:World}{A:Around}{E:Ω}{s:Shared}
def B7(a:Value){Q₁:Ω}(h:Q₁ (.ref s⁻¹) {s with heap:=s.heap.push {cls:=.type "dict",data:=.dict #[]}}):codeAny (model prog w) A (.call (.builtin "dict.__new__") ⟨[.type "dict",a],[]⟩) (wants Q₁ E) s:=by
 refine codeAny_of_tree (show wpAny _ A.in1 (do checkBuiltinCall "dict.__new__" ⟨[.type "dict",a],[]⟩;again (.builtin "dict.__new__" ⟨[.type "dict",a],[]⟩)) _ _ s from Aa (Bi (KS a) (Ac ⟨plainId_quiet Fm _,AW KU ?_⟩)));rw[A4 Fm _];unfold Builtin.«dict.__new__»;have b:=oz;have c:=B5;obtain⟨hp,g,d,tk,os⟩:=s;dsimp only;refine Aa (Bi (a:=true) rfl ?_);simp only[A3,Ah,if_false];refine Aa (Bi b ?_);simp only[A3,Ah,if_false];refine Aa (Bi c ?_);rw[if_neg ξ];refine Aa (AF ?_);exact Ac h
def KW{id:String}{d:Addr}{o:Obj}{es:Array DictEntry}{ep:Nat}{Q:Array DictEntry->Shared->Prop}(g:s.heap.get? d=some o)(hd:o.data=.dict es ep)(hk:∀e∈es.toList,∃b,e.key=.ref b/\s.TypeIs (.ref b) "tuple")(i:∀e∈es.toList,(es.filter (·.hash==e.hash)).size<=1)(h:Q es s):wpAny (model prog w) A (Builtin.Dict.entriesForEmpty id d) Q E s:=by
 unfold Builtin.Dict.entriesForEmpty;refine Aa (AD g hd ?_);refine Aa ?_;show wpAny _ _ (forIn es _ _) _ _ s;rw[<-Array.forIn_toList];refine wpAny_forIn_list _ (fun rest r s'=>s'=s/\∀e∈rest,e∈es.toList) _ ?_ ?_ _ _ ⟨rfl,fun _ z=>z⟩
 ·rintro e rest r s' ⟨rfl,a⟩
  have he:=a e Av;obtain⟨b,f,hT⟩:=hk e he;have nx:∀e∈rest,e∈es.toList:=fun u c=>a u (Ay _ c);have hs:=i e he;unfold Builtin.Dict.quietEq;rw[f];refine Aa ?_;dsimp only;refine Aa (wpAny_specialOf hT F.slot_tuple_eq.lookup (Ac ?_));rw[if_pos ξ,if_neg ω];exact Ac ⟨rfl,nx⟩
 ·rintro r s' ⟨rfl,_⟩
  exact Ac h
def KY{id:String}{D d:Addr}{o:Obj}{es:Array DictEntry}{ep:Nat}{Q:Unit->Shared->Prop}(c:s.heap.get? d=some o)(hd:o.data=.dict es ep)(r:(d==A0)=false)(hz:es.size<=sizeLine)(i:D≠d)(hk:∀e∈es.toList,∃b,e.key=.ref b/\s.TypeIs (.ref b) "tuple")(u:∀e∈es.toList,(es.filter (·.hash==e.hash)).size<=1)(f:s.heap.get? D=some {cls:=.type "dict",data:=.dict #[]})(h:∀h' j,h'.get? D=some {cls:=.type "dict",data:=.dict es j}->AQ D s.heap h'->Q () {s with heap:=h'}):wpAny (model prog w) A (Builtin.Dict.mergeDict id D d) Q E s:=by
 unfold Builtin.Dict.mergeDict;rw[if_neg (by simpa using i)];unfold Builtin.Dict.showsAll;rw[if_neg (by rw[r];exact Aq)];refine Aa (Ac ?_);refine Aa (AD c hd ?_)
 by_cases q:es.size=0
 ·have he:es=#[]:=Array.eq_empty_of_size_eq_zero q
  subst he;have g:(decide ((#[]:Array DictEntry).size<=8)&&(#[]:Array DictEntry).all fun e=>(keyPart e.key).isSome)=true:=by simp
  dsimp only;rw[g];simp only[A3,Ah,if_false];refine Aa (wpAny_dictEpoch c hd ?_);refine Aa (AD c hd ?_);refine Aa ?_;rw[Std.Legacy.Range.forIn_eq_forIn_range'];refine Bi (a:=PUnit.unit) rfl ?_;exact Ac (h s.heap 0 f (Heap.SameBut.refl ..))
 ·have g:(decide (es.size<=8)&&es.all fun e=>(keyPart e.key).isSome)=false:=by
   have p:0<es.size:=Nat.pos_of_ne_zero q;obtain⟨b,l,_⟩:=hk es[0] (by simp);have:(es.all fun e=>(keyPart e.key).isSome)=false:=by
    rw[Bool.eq_false_iff];intro z;rw[Array.all_eq_true] at z;have:=z 0 p;rw[l] at this;exact absurd this (by simp[keyPart])
   rw[this,Bool.and_false]
  dsimp only;rw[g];simp only[Bool.not_false,if_true];refine Aa (AD f rfl ?_);rw[if_pos (show(#[]:Array DictEntry).isEmpty=true from rfl)];refine Aa (KW c hd hk u ?_);rw[if_pos (by simpa[Array.isEmpty] using q)];refine Aa (wpAny_updateDictKeysTo f rfl ?_ ω);refine Ac (h _ 1 ?_ (AL ..));rw[A5 _ f (by simp[Obj.mapDictKeys,Obj.isFreed])]
  rfl
def KZ{d:Addr}{o:Obj}{es:Array DictEntry}{ep:Nat}{Q:Ω}(v:s.heap.get? d=some o)(hx:o.ExactDict)(hd:o.data=.dict es ep)(G:(d==A0)=false)(hz:es.size<=sizeLine)(hk:∀e∈es.toList,∃b,e.key=.ref b/\s.TypeIs (.ref b) "tuple")(H:∀e∈es.toList,(es.filter (·.hash==e.hash)).size<=1)(h:∀h' g,h'.get? s⁻¹=some {cls:=.type "dict",data:=.dict es g}->(∀b o,b<s⁻¹->s.heap.get? b=some o->h'.get? b=some o)->Q (.ref s⁻¹) {s with heap:=h'}):wpAny (model prog w) A (call (.type "dict") [.ref d]) Q E s:=by
 obtain⟨c,tl,I⟩:=zm.mro;have J:=zm.made;have L:=zm.sub;refine wpAny_call (codeAny_of_tree ?_);show wpAny _ _ (callAny (.type "dict") _) _ _ _;refine Ac ⟨Code.quiet_builtin _ δ,AW F.entry_type_call ?_⟩;rw[Around.under_plain (weight_type_call_type "dict" [.ref d] []) rfl];have h1:=zm.notType;have h2:=zm.canCreate;have M:=B6 (.ref d)
 repeat(any_goals(first|assumption|wp_step))
 refine Bc (B7 (.ref d) (E:=E) (Q₁:=fun obj l=>obj=.ref s⁻¹/\l={s with heap:=s.heap.push {cls:=.type "dict",data:=.dict #[]}}) ⟨rfl,rfl⟩) fun r l hr=>?_;cases r with
 |error e=>exact hr
 |ok fl=>
  cases fl with
  |ret obj=>
   obtain⟨rfl,rfl⟩:=hr;have q:(s.heap.push {cls:=.type "dict",data:=.dict #[]}).get? s⁻¹=some {cls:=.type "dict",data:=.dict #[]}:=Al _ rfl;have u:Shared.TypeIs {s with heap:=s.heap.push {cls:=.type "dict",data:=.dict #[]}} (.ref s⁻¹) "dict":=⟨_,q,rfl⟩;have N:=zm.init.lookup;have O:=zm.init.bind (.ref s⁻¹)
   repeat(any_goals(first|assumption|wp_step))
   refine Bc (codeAny_call_builtin (R:=wants (fun r p=>r=.none/\∃h' g,p={s with heap:=h'}/\
     h'.get? s⁻¹=some {cls:=.type "dict",data:=.dict es g}/\
     (∀b o,b<s⁻¹->s.heap.get? b=some o->h'.get? b=some o)) E) zm.init.plain F.entry_dict_init (zm.init.check _ _ _ _ _ _ _ _ u (F.args_dict_init_2 _ _) ?_)) fun x p j=>?_
   ·have D:d<s⁻¹:=Ak v
    have i:(s.heap.push {cls:=.type "dict",data:=.dict #[]}).get? d=some o:=Ad _ v;have f:Shared.TypeIs {s with heap:=s.heap.push {cls:=.type "dict",data:=.dict #[]}} (.ref d) "dict":=⟨o,i,hx.1⟩;unfold Builtin.«dict.__init__»;refine Aa ?_;unfold Builtin.Dict.selfAndRest;refine Aa (wpAny_notOrdered_dict u ?_);refine Aa (show wpAny _ _ (pure s⁻¹) _ _ _ from Ac ?_);refine Ac ?_;show wpAny _ _ (Builtin.Dict.updateCommon "dict.__init__" "dict" s⁻¹ [Value.ref d] []) _ _ _;unfold Builtin.Dict.updateCommon Builtin.Dict.updateFrom;dsimp only;refine Aa (wpAny_typeOf f ?_);rw[if_neg ξ];unfold Builtin.Dict.merge Builtin.Dict.readDirectly;refine Aa (Aa (Aa (A8 f oz ?_)));simp only[A3,Ah,if_false];refine Aa (wpAny_specialOf f F.slot_dict_iter.lookup (Ac ?_));rw[if_pos ξ];refine Aa (show wpAny _ _ (pure d) _ _ _ from Ac ?_);refine KY (s:={s with heap:=s.heap.push {cls:=.type "dict",data:=.dict #[]}}) i hd G hz (Nat.ne_of_gt D) (fun e he=>let ⟨b,e1,o,e2,e3⟩:=hk e he;⟨b,e1,o,Ad _ e2,e3⟩) H q fun h' g y z=>?_;unfold Builtin.Dict.addKeywords;refine Aa (Bi (a:=()) rfl ?_);refine Ac ⟨rfl,h',g,rfl,y,fun b o hb e=>?_⟩;rw[z.2 b (Ao hb)];exact Ad _ e
   ·cases x with
    |error e=>exact j
    |ok fl₂=>
     cases fl₂ with
     |ret r=>
      obtain⟨rfl,h',g,rfl,C,hk'⟩:=j
      repeat(any_goals(first|assumption|wp_step))
      exact h _ _ C hk'
     |_=>exact j.elim
  |_=>exact hr.elim
end
end DCp
end
section
set_option maxHeartbeats 3200000
namespace STb
open PySem PySem.SetTable PyProof.Rows
def B8{b:Type}(next:Nat->Nat):∀(fuel k:Nat)(left:List b)(out:Array b),left.length=fuel->∃l,l.Perm left/\(pickOrder.go next fuel k left out).toList=out.toList++l
 |0,k,left,out,h=>⟨[],by rw[List.eq_nil_of_length_eq_zero h],by simp[pickOrder.go]⟩
 |fuel+1,k,left,out,h=>by
  have a:next k%left.length<left.length:=Nat.mod_lt _ ω;unfold pickOrder.go;rw[Af a];dsimp only;obtain⟨l,c,e⟩:=B8 next fuel (k+1) (left.eraseIdx (next k%left.length)) (out.push left[next k%left.length]) (by rw[List.length_eraseIdx,if_pos a];omega);refine⟨left[next k%left.length]::l,?_,?_⟩
  ·refine(List.Perm.cons _ c).trans ?_
   rw[List.eraseIdx_eq_take_drop_succ];refine(List.perm_middle (l₁:=left.take (next k%left.length))).symm.trans ?_;rw[<-List.drop_eq_getElem_cons a,List.take_append_drop]
  ·rw[e,Array.toList_push,List.append_assoc]
   rfl
def K0{b:Type}(next:Nat->Nat)(xs:Array b):(pickOrder next xs).toList.Perm xs.toList:=by
 obtain⟨l,a,e⟩:=B8 next xs.size 0 xs.toList #[] (by simp);unfold pickOrder;rw[e]
 simpa using a
section
variable{prog:Program}{w:World}{K:Type}[DecidableEq K]{knd:KeyKind prog w K}{A:Around}{E:Ω}{s:Shared}
def K2{B:List Addr}{S:Addr}{o:Obj}{es:Array (Int×Value)}{ep:Nat}{t:SetTable}{ks:List (List K)}(X:TS knd s.heap S o es ep t ks B)(hu:A.units<cLine){k:List K}{b:Addr}(hk:AI knd s.heap k b){Q:Option Nat->Shared->Prop}(h:∀r:Option Nat,r.isSome=decide (k∈ks)->Q r s):wpAny (model prog w) A (setFind S (.ref b) (Ar knd k)) Q E s:=by
 have T:=X.tb;have j:=fits_of T;unfold setFind setFindIn;refine Aa (AZ X.at_ X.dt j ?_);dsimp only;have l:byScan (.ref b) es=false:=rfl;rw[l];simp only[Ah,if_false];obtain⟨ne,d,he,hm⟩:=yU T (Ar knd k);refine Aa ?_;unfold setSearch;refine ET X hu hk d he hm (fun e r hr=>?_) (fun f=>?_) 100000 0 none ?_ (AK _) rfl (fun m i c g=>absurd g (Nat.not_lt_zero _))
 ·exact Ac (h r (by rw[hr rfl,decide_eq_true e]))
 ·exact Ac (h none (by rw[decide_eq_false f];rfl))
 ·have:t.mask<=255:=by rcases X.msk with ⟨a,_⟩|⟨a,_⟩|⟨a,_⟩|⟨a,_⟩|⟨a,_⟩|⟨a,_⟩<;>omega
  unfold turns at d;omega
def B9{Q:Bool->Shared->Prop}(h:Q (w.params.followText "set-order") s):wpAny (model prog w) A setsByText Q E s:=by
 unfold setsByText;exact Aa (wpAny_askSetting (Ac h))
def wp_walk{B:List Addr}{S:Addr}{o:Obj}{es:Array (Int×Value)}{ep:Nat}{t:SetTable}{ks:List (List K)}(X:TS knd s.heap S o es ep t ks B){Q:Array (Int×Value)->Shared->Prop}(h:∀r:Array (Int×Value),r.toList.Perm es.toList->Q r s):wpAny (model prog w) A (setWalk S) Q E s:=by
 have a:=fits_of X.tb;unfold setWalk;refine Aa (AZ X.at_ X.dt a ?_);dsimp only;refine Aa (B9 ?_);cases hb:w.params.followText "set-order" with
 |true=>
  simp only[if_true];exact Aa (wpAny_askSetting (Ac (h _ (K0 _ es))))
 |false=>
  have hw:t.led=true/\t.plain=true:=X.wk.resolve_left (by rw[hb];simp);simp only[Ah,if_false];show wpAny _ _ (ite ((!t.plain&&decide (es.size>1))=true) _ _) _ _ _;rw[hw.2];simp only[A3,Bool.false_and,Ah,if_false];show wpAny _ _ ((ite ((!t.led&&decide (es.size>1))=true) _ _) >>= _) _ _ _;rw[hw.1];simp only[A3,Bool.false_and,Ah,if_false];exact Aa (Ac (Ac (h es (List.Perm.refl _))))
def K3{B:List Addr}{S:Addr}{o:Obj}{es:Array (Int×Value)}{ep:Nat}{t:SetTable}{ks:List (List K)}(X:TS knd s.heap S o es ep t ks B){b:List Addr}{d:Option Addr}{Q:Array (Int×Value)->Shared->Prop}(h:∀r:Array (Int×Value),r.toList.Perm es.toList->Q r s):wpAny (model prog w) A (setWalkUnseen S b d) Q E s:=by
 have a:=fits_of X.tb;unfold setWalkUnseen;refine Aa (AZ X.at_ X.dt a ?_);dsimp only;refine Aa (B9 ?_);have c:(w.params.followText "set-order" || (t.led&&t.plain)|| decide (es.size<=1))=true:=by
  rcases X.wk with e|⟨e1,e2⟩
  ·rw[e];rfl
  ·rw[e1,e2];simp
 rw[if_pos c];exact wp_walk X h
def Fq{B:List Addr}{S:Addr}{o:Obj}{es:Array (Int×Value)}{ep:Nat}{t:SetTable}{ks:List (List K)}(X:TS knd s.heap S o es ep t ks B){Q:Nat->Shared->Prop}(h:Q ep s):wpAny (model prog w) A (setEpoch S) Q E s:=by
 unfold setEpoch;exact Aa (AZ X.at_ X.dt (fits_of X.tb) (Ac h))
def Fs{B:List Addr}{S:Addr}{o:Obj}{es:Array (Int×Value)}{ep:Nat}{t:SetTable}{ks:List (List K)}(X:TS knd s.heap S o es ep t ks B){Q:Nat->Shared->Prop}(h:Q ks.length s):wpAny (model prog w) A (Builtin.Frozenset.sizeOf S) Q E s:=by
 unfold Builtin.Frozenset.sizeOf setEntries;refine Aa (Aa (AZ X.at_ X.dt (fits_of X.tb) (Ac (Ac ?_))));rw[X.sz];exact h
def B_{S:Addr}(hT:s.TypeIs (.ref S) "set"){Q:Bool->Shared->Prop}(h:Q true s):wpAny (model prog w) A (Builtin.Frozenset.isAnySet (.ref S)) Q E s:=by
 unfold Builtin.Frozenset.isAnySet orM;refine Aa (A8 hT sub_set_self ?_);exact Ac h
def K4{q Z:List Addr}{S1 S2 R:Addr}{id:String}{i g:List (List K)}{P S:Obj}{T U:Array (Int×Value)}{u W:Nat}{X Y:SetTable}(n1:S1≠R)(n2:S2≠R)(hu:A.units<cLine)(hv:∀k v n,knd.is k v=true->hashByValue n v=pure true)(hz:i.length<60):∀(l:List (Int×Value))(s:Shared)(d:List (List K))(Q:Unit->Shared->Prop),(∀e∈l,∃k b,k∈i/\b∈q/\e=(Ar knd k,Value.ref b)/\AI knd s.heap k b)->TS knd s.heap S1 P T u X i q->TS knd s.heap S2 S U W Y g Z->
   (∃o es ep t,TS knd s.heap R o es ep t d q)->(∀k∈d,k∈i/\k∉g)->
   (∀h' D,(∃o es ep t,TS knd h' R o es ep t D q)->AQ R s.heap h'->(∀k∈D,k∈i/\k∉g)->(∀k∈d,k∈D)->(∀e∈l,∀k,e.1=Ar knd k->(∃b,e.2=Value.ref b/\AI knd s.heap k b)->k∉g->k∈D)->Q () {s with heap:=h'})->
   wpAny (model prog w) A (forIn l PUnit.unit fun x _=>do
    holding [x.snd] (do
     let y <-setFind S2 x.snd x.fst
     let there <-pure y.isSome
     if(!there)=true then do
       let _ <-setAddHashed R x.snd x.fst
       pure ()
      else pure ())
    Builtin.Frozenset.unchanged id S1 u
    pure (ForInStep.yield PUnit.unit)) Q E s:=by
 intro l
 induction l with
 |nil=>
  intro s d Q _ _ _ hR hk h;exact Ac (h s.heap d hR (Heap.SameBut.refl ..) hk (fun _ z=>z) (fun e he=>by cases he))
 |cons e l ih=>
  intro s d Q L X1 X2 hR hk h;obtain⟨k,b,rW,jB,rfl,H⟩:=L e (Av);obtain⟨oR,vn,vo,tR,XR⟩:=hR;have xj:d.length<60:=Nat.lt_of_le_of_lt (XR.nd.length_le_of_subset fun x hx=>(hk x hx).1) hz;rw[List.forIn_cons];have O:∀(h1:Heap)(j:List (List K)),(∃o es ep t,TS knd h1 R o es ep t j q)->AQ R s.heap h1->(∀k∈j,k∈i/\k∉g)->(∀k∈d,k∈j)->(k∉g->k∈j)->
    ∀J:ForInStep PUnit->Shared->Prop,((wpAny (model prog w) A (forIn l PUnit.unit fun x _=>do
      holding [x.snd] (do
       let y <-setFind S2 x.snd x.fst
       let there <-pure y.isSome
       if(!there)=true then do
         let _ <-setAddHashed R x.snd x.fst
         pure ()
        else pure ())
      Builtin.Frozenset.unchanged id S1 u
      pure (ForInStep.yield PUnit.unit)) Q E {s with heap:=h1})->J (ForInStep.yield PUnit.unit) {s with heap:=h1})->wpAny (model prog w) A (do
     Builtin.Frozenset.unchanged id S1 u
     pure (ForInStep.yield PUnit.unit)) J E {s with heap:=h1}:=by
   intro h1 j xr p oQ kc mZ J vN;have F:∀c a,AI knd s.heap c a->AI knd h1 c a:=fun c a z=>iJ z XR.at_ XR.dt p;have C:TS knd h1 S1 P T u X i q:=X1.moved (by rw[p.2 S1 n1];exact X1.at_) F;have mh:TS knd h1 S2 S U W Y g Z:=X2.moved (by rw[p.2 S2 n2];exact X2.at_) F;unfold Builtin.Frozenset.unchanged;refine Aa (Aa (Fq (s:={s with heap:=h1}) C ?_));simp only[bne_self_eq_false,Ah,if_false];refine Ac (Ac (vN ?_));refine ih {s with heap:=h1} j Q (fun G he'=>?_) C mh xr oQ fun h2 tG xz cO a1 M a3=>h h2 tG xz (p.trans cO) a1 (fun x hx=>M x (kc x hx)) fun G he' c e1 e2 N=>?_
   ·obtain⟨c,a,c1,c2,c3,c4⟩:=L G (Ay _ he')
    exact⟨c,a,c1,c2,c3,F c a c4⟩
   ·rcases List.mem_cons.mp he' with rfl|he'
    ·obtain⟨a,e3,I⟩:=e2
     obtain rfl:b=a:=by simpa using e3
     obtain rfl:k=c:=IsTupleKey.inj H I;exact M k (mZ N)
    ·obtain⟨a,e3,I⟩:=e2
     exact a3 G he' c e1 ⟨a,e3,F c a I⟩ N
  refine Aa (Aa (AA (Aa (K2 X2 hu H fun r hr=>Aa (Ac ?_)))));rw[hr]
  by_cases f:k∈g
  ·rw[decide_eq_true f]
   simp only[A3,Ah,if_false];exact Ac (O s.heap d ⟨oR,vn,vo,tR,XR⟩ (Heap.SameBut.refl ..) hk (fun _ z=>z) (fun z=>absurd f z) _ fun z=>z)
  ·rw[decide_eq_false f]
   simp only[Bool.not_false,if_true];refine Aa (zz XR hu hv H jB xj fun r' h' o' es' aR t' sQ p=>Ac ?_);refine O h' _ ⟨o',es',aR,t',sQ⟩ p (fun x hx=>?_) (fun x hx=>?_) (fun _=>?_) _ fun z=>z
   ·split at hx
    ·exact hk x hx
    ·rcases List.mem_append.mp hx with hx|hx
     ·exact hk x hx
     ·rw[List.mem_singleton.mp hx];exact⟨rW,f⟩
   ·split
    ·exact hx
    ·exact List.mem_append_left _ hx
   ·split
    ·assumption
    ·exact List.mem_append_right _ (List.mem_singleton.mpr rfl)
def K5{j Y:List Addr}{S1 S2:Addr}{id:String}{d i:List (List K)}{q u:Obj}{N O:Array (Int×Value)}{P S:Nat}{T U:SetTable}(X1:TS knd s.heap S1 q N P T d j)(X2:TS knd s.heap S2 u O S U i Y)(hu:A.units<cLine)(W:∀k v n,knd.is k v=true->hashByValue n v=pure true)(hz:d.length<60)(hq:¬d.length / 4>i.length){Q:Ω}(h:∀h' a,(∃o es ep t,TS knd h' s⁻¹ o es ep t a j)->(∀b o,b<s⁻¹->s.heap.get? b=some o->h'.get? b=some o)->(∀k,k∈a↔k∈d/\k∉i)->Q (.ref s⁻¹) {s with heap:=h'}):wpAny (model prog w) A (Builtin.Frozenset.difference id S1 (.ref S2)) Q E s:=by
 have g:s.TypeIs (.ref S1) "set":=⟨q,X1.at_,X1.ex.1⟩;have I:s.TypeIs (.ref S2) "set":=⟨u,X2.at_,X2.ex.1⟩;unfold Builtin.Frozenset.difference;dsimp only;refine Aa (B_ I ?_);simp only[A3,Ah,if_false];refine Aa (Ac ?_);simp only[Bool.false_and,Ah,if_false,if_true];refine Aa (Fs X2 (Aa (Fs X1 ?_)));rw[if_neg hq];unfold Builtin.Frozenset.baseOf;refine Aa (Aa (A8 g sub_set_self (Ac ?_)));simp only[if_true];unfold newSet;refine Aa (Aa (B9 ?_));dsimp only;simp only[newObj];rw[if_neg (by simp)];unfold newObjAsIs;refine Aa (wpAny_alloc ?_);refine Ac ?_;refine Aa (Ac ?_);have J:S1<s⁻¹:=Ak X1.at_;have L:S2<s⁻¹:=Ak X2.at_;obtain⟨led,l⟩:∃led:Bool,led=!w.params.followText "set-order":=⟨_,rfl⟩;rw[<-l];have keep:∀b o,s.heap.get? b=some o->(s.heap.push {cls:=.type "set",dict:=none,data:=.set #[] 0 (.fresh 0 0 led)}).get? b=some o:=fun b o e=>Ad _ e;have X1':=X1.moved (keep _ _ X1.at_) fun k b z=>j8 z fun o e=>keep b o e;have M:=X2.moved (keep _ _ X2.at_) fun k b z=>j8 z fun o e=>keep b o e;have X:TS knd (s.heap.push {cls:=.type "set",dict:=none,data:=.set #[] 0 (.fresh 0 0 led)}) s⁻¹ {cls:=.type "set",dict:=none,data:=.set #[] 0 (.fresh 0 0 led)} #[] 0 (.fresh 0 0 led) ([]:List (List K)) j:=
  ⟨Al _ rfl,⟨rfl,rfl,rfl⟩,rfl,(by simpa using rv 0 0 led),rfl,List.nodup_nil,(fun e he=>by simp at he),(fun k hk=>by cases hk),.inl ⟨rfl,AK _⟩,(fun e he=>by simp at he),by
   rw[l];cases w.params.followText "set-order" <;> simp[SetTable.fresh]⟩
 refine Aa (Fq (s:={s with heap:=s.heap.push {cls:=.type "set",dict:=none,data:=.set #[] 0 (.fresh 0 0 led)}}) X1' ?_);refine Aa (AA ?_);refine Aa (K3 (s:={s with heap:=s.heap.push {cls:=.type "set",dict:=none,data:=.set #[] 0 (.fresh 0 0 led)}}) X1' fun r hr=>?_);rw[<-Array.forIn_toList];refine Aa ?_;refine K4 (s:={s with heap:=s.heap.push {cls:=.type "set",dict:=none,data:=.set #[] 0 (.fresh 0 0 led)}}) (Ao J) (Ao L) hu W hz r.toList [] _ (fun e he=>?_) X1' M ⟨_,_,_,_,X⟩ (fun k hk=>by cases hk) fun h' a hR x y _ C=>?_
 ·obtain⟨k,b,f,c,F⟩:=X1'.el e (hr.mem_iff.mp he)
  obtain⟨G,H,p⟩:=X1'.ad e (hr.mem_iff.mp he);rw[c] at p;obtain rfl:b=G:=by simpa using p
  exact⟨k,b,f,H,c,F⟩
 ·refine Ac (Ac (h h' a hR (fun b o hb e=>?_) fun k=>⟨y k,fun⟨D,z2⟩=>?_⟩))
  ·rw[x.2 b (Ao hb)]
   exact keep b o e
  ·obtain⟨b,f,c⟩:=X1'.ke k D
   exact C _ (hr.mem_iff.mpr f) k rfl ⟨b,rfl,c⟩ z2
end
end STb
end
section
set_option maxHeartbeats 3200000
namespace STb
open PySem PySem.SetTable PyProof.Rows
def K6:entryFor table "set.__sub__"=some Builtin.«frozenset.__sub__»:=
 entryFor_alias (id':="frozenset.__sub__") (by kernel_rfl) rfl δ (by kernel_rfl)
section
variable{prog:Program}{w:World}{K:Type}[DecidableEq K]{knd:KeyKind prog w K}{A:Around}{E:Ω}{s:Shared}
def K7{j z:List Addr}{S1 S2:Addr}{d e:List (List K)}{g i:Obj}{l p:Array (Int×Value)}{q r:Nat}{u x:SetTable}(X1:TS knd s.heap S1 g l q u d j)(X2:TS knd s.heap S2 i p r x e z)(hu:A.units+64<cLine)(y:∀k v n,knd.is k v=true->hashByValue n v=pure true)(hz:d.length<60)(hq:¬d.length / 4>e.length){Q:Ω}(h:∀h' c,(∃o es ep t,TS knd h' s⁻¹ o es ep t c j)->(∀b o,b<s⁻¹->s.heap.get? b=some o->h'.get? b=some o)->(∀k,k∈c↔k∈d/\k∉e)->Q (.ref s⁻¹) {s with heap:=h'}):wpAny (model prog w) A (binaryOp .Sub (.ref S1) (.ref S2)) Q E s:=by
 have a:s.TypeIs (.ref S1) "set":=⟨g,X1.at_,X1.ex.1⟩;have f:s.TypeIs (.ref S2) "set":=⟨i,X2.at_,X2.ex.1⟩;refine wpAny_binaryOp_same (op:=.Sub) (T:="set") a f PySem.F.fills_set_sub PySem.F.slot_set_sub ?_;refine AC PySem.F.slot_set_sub a K6 ?_ (PySem.F.args_set_sub_2 _ _);unfold Builtin.«frozenset.__sub__»
 wp_delta
 refine Aa (show wpAny (model prog w) A.in1 (pure (Value.ref S1,Value.ref S2)) _ _ _ from Ac ?_);dsimp only;simp only[Ah,if_false];unfold andM;refine Aa (Aa (B_ a ?_));refine B_ f ?_;simp only[A3,Ah,if_false];unfold Builtin.Frozenset.addrOf;refine Aa (Ac (Aa (K5 X1 X2 (by show A.units+1<cLine;omega) y hz hq fun h' c hR hk hm=>?_)));exact Ac ⟨_,rfl,by simp,h h' c hR hk hm⟩
end
end STb
end
section
set_option maxHeartbeats 3200000
namespace STb
open PySem PySem.SetTable PyProof.Rows
def K8:∀n,n<60->5<=n->(sizeAbove (n*2)<=sizeLine)/\(sizeAbove (n*2)-1=15\/sizeAbove (n*2)-1=31\/sizeAbove (n*2)-1=63\/sizeAbove (n*2)-1=127):=δ
section
variable{prog:Program}{w:World}{K:Type}[DecidableEq K]{knd:KeyKind prog w K}{A:Around}{E:Ω}{s:Shared}
def K9{B:List Addr}{S:Addr}{o:Obj}{es:Array (Int×Value)}{ep:Nat}{t:SetTable}(X:TS knd s.heap S o es ep t ([]:List (List K)) B)(hm:t.mask=7){n:Nat}(l:n<60){Q:Unit->Shared->Prop}(h:∀h' o' es' f t',TS knd h' S o' es' f t' ([]:List (List K)) B->AQ S s.heap h'->Q () {s with heap:=h'}):wpAny (model prog w) A (setRoomFor S n) Q E s:=by
 have T:=X.tb;have i:=fits_of T;have j:es.size=0:=X.sz;have a:t.place.size=0:=by rw[T.size,AY];exact j
 have f0:t.fill=0:=by unfold SetTable.fill;rw[T.dum,a];rfl
 unfold setRoomFor;refine Aa (AZ X.at_ X.dt i ?_);dsimp only;unfold SetTable.roomFor;rw[f0,a,hm,Nat.zero_add]
 by_cases q:n*5 ≥ 7*3
 ·rw[if_pos q]
  dsimp only;obtain⟨g,z2⟩:=K8 n l ω;have go:∀m2,sizeAbove (n*2)-1=m2->ei m2->m2%2=1->((m2=7/\es.size<=4)\/(m2=31/\es.size<=18)\/(m2=127/\es.size<=76)\/(m2=15/\es.size<=8)\/(m2=63/\es.size<=37)\/(m2=255/\es.size<=152))->
    wpAny (model prog w) A (setRelay S (n*2)) Q E s:=fun m2 b c d e=>
   EU X.at_ X.ex X.dt T X.sz X.nd X.ad X.el X.ke b g c d ω ω e X.wk h
  rcases z2 with z|z|z|z
  ·exact go 15 z oh rfl ω
  ·exact go 31 z gj rfl ω
  ·exact go 63 z js rfl ω
  ·exact go 127 z gk rfl ω
 ·rw[if_neg q]
  exact Ac (h s.heap o es ep t X (Heap.SameBut.refl ..))
end
end STb
end
section
set_option maxHeartbeats 3200000
namespace STb
open PySem PySem.SetTable PyProof.Rows
section
variable{prog:Program}{w:World}{K:Type}[DecidableEq K]{knd:KeyKind prog w K}{A:Around}{E:Ω}{s:Shared}
def K_{B:List Addr}{S d:Addr}{id:String}{o l:Obj}{es:Array (Int×Value)}{a:Array DictEntry}{nS ep:Nat}{t:SetTable}(X:TS knd s.heap S o es ep t ([]:List (List K)) B)(hm:t.mask=7)(u:s.heap.get? d=some l)(ib:l.cls=.type "dict")(D:l.data=.dict a nS)(eA:(d==A0)=false)(p:d≠S)(hu:A.units<cLine)(hv:∀k v n,knd.is k v=true->hashByValue n v=pure true){vals:List (List K)}{adr:Nat->Addr}(hn:vals.length=a.size)(hz:a.size<=59)(hB:∀i,i<a.size->adr i∈B)(ao:∀(i:Nat) e x,a[i]?=some e->vals[i]?=some x->e.key=.ref (adr i)/\e.hash=Ar knd x)(hT:∀(j:Nat) x,vals[j]?=some x->AI knd s.heap x (adr j)){Q:Unit->Shared->Prop}(h:∀h',(∃o es ep t,TS knd h' S o es ep t (dd vals) B)->AQ S s.heap h'->Q () {s with heap:=h'}):wpAny (model prog w) A (Builtin.Frozenset.updateFrom id S (.ref d)) Q E s:=by
 have f:s.TypeIs (.ref d) "dict":=⟨l,u,ib⟩;unfold Builtin.Frozenset.updateFrom Builtin.Frozenset.isAnySet orM;refine Aa (Aa (A8 f F.sub_dict_set ?_));refine A8 f F.sub_dict_frozenset ?_;simp only[Ah,if_false];refine Aa (wpAny_typeOf f ?_);rw[if_pos ξ];refine Aa (wpAny_rule ?_);unfold Builtin.Frozenset.addrOf;refine Aa (Ac ?_);rw[if_neg (by rw[eA];exact Aq)];refine Aa (wpAny_dictEpoch u D ?_);refine Aa (AD u D ?_);refine Aa (K9 X hm ω fun h1 T U W Y X1 J=>?_);have oV:h1.get? d=some l:=by rw[J.2 d p];exact u
 refine Aa (AD (s:={s with heap:=h1}) oV D ?_);refine Aa ?_;rw[Std.Legacy.Range.forIn_eq_forIn_range'];simp only[Std.Legacy.Range.size,Nat.sub_zero,Nat.add_sub_cancel,Nat.div_one];refine wpAny_forIn_list _
  (fun rest _ s'=>∃h' i,s'={s with heap:=h'}/\rest=List.range' i (a.size-i)/\i<=a.size/\(∃o es ep t,TS knd h' S o es ep t (dd (vals.take i)) B)/\AQ S s.heap h')
  _ ?_ ?_ _ _ ⟨h1,0,rfl,by simp,AK _,⟨T,U,W,Y,by simpa[dd] using X1⟩,J⟩
 ·rintro x rest b s' ⟨h',i,rfl,hr,hi,⟨o',es',aR,t',X'⟩,z⟩
  have c:i<a.size:=by
   rcases Nat.lt_or_ge i a.size with h|h
   ·exact h
   ·rw[Nat.sub_eq_zero_of_le h] at hr;simp at hr
  obtain⟨rfl,bL⟩:x=i/\rest=List.range' (i+1) (a.size-(i+1)):=by
   have e:a.size-i=(a.size-(i+1))+1:=ω
   rw[e,List.range'_succ] at hr;injection hr with h1 h2
   exact⟨h1,h2⟩
  have H:h'.get? d=some l:=by rw[z.2 d p];exact u
  refine Aa (AD (s:={s with heap:=h'}) H D ?_);rw[Array.getElem?_eq_getElem c];have hx:vals[x]?=some vals[x]:=Af ω;obtain⟨q1,q2⟩:=ao x a[x] _ (by simp[c]) hx;show wpAny _ _ (holding [a[x].key] (setAddHashed S a[x].key a[x].hash) >>= _) _ _ _;rw[q1,q2];have C:=fj (vals.take x);rw[AG] at C;refine Aa (AA (zz X' hu hv (iJ (hT x _ hx) X.at_ X.dt z) (hB x c) ω fun r y L M N ld G Z=>?_));have P:AQ S s.heap y:=z.trans Z;have nR:y.get? d=some l:=by rw[P.2 d p];exact u
  refine Aa (wpAny_dictEpoch (s:={s with heap:=y}) nR D ?_);rw[if_neg (by simp)];have g:vals.take (x+1)=vals.take x++[vals[x]]:=by rw[List.take_add_one,hx];rfl
  have X3:TS knd y S L M N ld (dd (vals.take (x+1))) B:=by
   rw[g,hY]
   by_cases q:vals[x]∈dd (vals.take x)
   ·rw[if_pos q] at G ⊢;exact G
   ·rw[if_neg q] at G ⊢;exact G
  exact Ac ⟨y,x+1,rfl,bL,c,⟨L,M,N,ld,X3⟩,P⟩
 ·rintro b s' ⟨h',i,rfl,hr,hi,O,z⟩
  have I:i=a.size:=by
   have e:=congrArg List.length hr;simp at e;omega
  subst I;rw[Az ω] at O;exact Ac (h h' O z)
end
end STb
end
section
namespace STb
open PySem PySem.SetTable PyProof.Rows
section
variable{prog:Program}{w:World}{K:Type}[DecidableEq K]{knd:KeyKind prog w K}{A:Around}{E:Ω}{s:Shared}
def K'{B:List Addr}{d:Addr}{g:Obj}{a:Array DictEntry}{L:Nat}{vals:List (List K)}{adr:Nat->Addr}{Q:Ω}(u:s.heap.get? d=some g)(M:g.cls=.type "dict")(N:g.data=.dict a L)(O:(d==A0)=false)(hu:A.units+64<cLine)(P:∀k v n,knd.is k v=true->hashByValue n v=pure true)(hz:a.size<=59)(S:vals.length=a.size)(T:∀i,i<a.size->adr i∈B)(U:∀(i:Nat) e x,a[i]?=some e->vals[i]?=some x->e.key=.ref (adr i)/\e.hash=Ar knd x)(hT:∀(j:Nat) x,vals[j]?=some x->AI knd s.heap x (adr j))(h:∀h' tk,(∃o es ep t,TS knd h' s⁻¹ o es ep t (dd vals) B)->(∀b o,b<s⁻¹->s.heap.get? b=some o->h'.get? b=some o)->Q (.ref s⁻¹) {s with heap:=h',toks:=tk}):wpAny (model prog w) A (call (.type "set") [.ref d]) Q E s:=by
 obtain⟨c,tl,X⟩:=F.called_set.mro;have Y:=F.called_set.made;have Z:=F.called_set.sub;refine wpAny_call (codeAny_of_tree ?_);show wpAny _ _ (callAny (.type "set") _) _ _ _;refine Ac ⟨Code.quiet_builtin _ δ,AW F.entry_type_call ?_⟩;rw[Around.under_plain (weight_type_call_type "set" [.ref d] []) rfl];have h1:=F.called_set.notType;have h2:=F.called_set.canCreate;have ja:=F.typeCall_set_1 (.ref d)
 repeat(any_goals(first|assumption|wp_step))
 refine Bc (Bw (.ref d) (E:=E) (Q₁:=fun obj l=>∃led:Bool,(w.params.followText "set-order"=true\/led=true)/\obj=.ref s⁻¹/\l={s with heap:=s.heap.push {cls:=.type "set",dict:=none,data:=.set #[] 0 (.fresh 0 0 led)}}) ⟨_,by cases w.params.followText "set-order" <;> simp,rfl,rfl⟩) fun r l hr=>?_;cases r with
 |error e=>exact hr
 |ok fl=>
  cases fl with
  |ret obj=>
   obtain⟨led,G,rfl,rfl⟩:=hr;have q:(s.heap.push {cls:=.type "set",dict:=none,data:=.set #[] 0 (.fresh 0 0 led)}).get? s⁻¹=some {cls:=.type "set",dict:=none,data:=.set #[] 0 (.fresh 0 0 led)}:=Al _ rfl;have I:Shared.TypeIs {s with heap:=s.heap.push {cls:=.type "set",dict:=none,data:=.set #[] 0 (.fresh 0 0 led)}} (.ref s⁻¹) "set":=⟨_,q,rfl⟩;have jZ:=F.called_set.init.lookup;have jt:=F.called_set.init.bind (.ref s⁻¹)
   repeat(any_goals(first|assumption|wp_step))
   refine Bc (codeAny_call_builtin (R:=wants (fun r p=>r=.none/\∃h' tk,p={s with heap:=h',toks:=tk}/\
     (∃o es ep t,TS knd h' s⁻¹ o es ep t (dd vals) B)/\
     (∀b o,b<s⁻¹->s.heap.get? b=some o->h'.get? b=some o)) E) F.called_set.init.plain F.entry_set_init (check_set_init_1 I ?_)) fun y p f=>?_
   ·have J:d<s⁻¹:=Ak u
    have W:TS knd (s.heap.push {cls:=.type "set",dict:=none,data:=.set #[] 0 (.fresh 0 0 led)}) s⁻¹ {cls:=.type "set",dict:=none,data:=.set #[] 0 (.fresh 0 0 led)} #[] 0 (.fresh 0 0 led) ([]:List (List K)) B:=
     ⟨q,⟨rfl,rfl,rfl⟩,rfl,(by simpa using rv 0 0 led),rfl,List.nodup_nil,fun e he=>by simp at he,fun k hk=>by simp at hk,.inl ⟨rfl,AK _⟩,(fun e he=>by simp at he),G.imp id fun z=>⟨z,rfl⟩⟩
    unfold Builtin.«set.__init__» noKeywords;generalize hPI:Builtin.Frozenset.updateFrom=PI
    wp_walk
    subst hPI;refine K_ (s:={s with heap:=s.heap.push {cls:=.type "set",dict:=none,data:=.set #[] 0 (.fresh 0 0 led)}}) W rfl (Ad _ u) M N O (Ao J) (by show A.units+1+1<cLine;omega) P S hz T U
     (fun j x hx=>j8 (hT j x hx) fun o e=>Ad _ e) fun h' C D=>?_
    show wpAny _ _ (ret Value.none) _ _ _;refine Ac ⟨rfl,h',s.toks,rfl,C,fun b o hb e=>?_⟩;rw[D.2 b (Ao hb)];exact Ad _ e
   ·cases y with
    |error e=>exact f
    |ok fl₂=>
     cases fl₂ with
     |ret r=>
      obtain⟨rfl,h',tk,rfl,H,hk'⟩:=f
      repeat(any_goals(first|assumption|wp_step))
      exact h _ _ H hk'
     |_=>exact f.elim
  |_=>exact hr.elim
end
section
variable{prog:Program}{w:World}{K:Type}[DecidableEq K]{knd:KeyKind prog w K}
def TO(knd:KeyKind prog w K)(h:Heap)(S:Addr)(ks:List (List K))(B:List (List K×Addr)):Prop:=
 ∃o es ep t,h.get? S=some o/\o.ExactSet/\o.data=.set es ep t/\Tb t (es.map (·.1))/\es.size=ks.length/\ks.Nodup/\
  (∀e∈es.toList,∃k b,k∈ks/\(k,b)∈B/\e=(Ar knd k,Value.ref b))/\(∀k∈ks,∃b,(k,b)∈B/\(Ar knd k,Value.ref b)∈es.toList)/\
  ((t.mask=7/\es.size<=4)\/(t.mask=31/\es.size<=18)\/(t.mask=127/\es.size<=76)\/(t.mask=15/\es.size<=8)\/(t.mask=63/\es.size<=37)\/(t.mask=255/\es.size<=152))/\
  (w.params.followText "set-order"=true\/(t.led=true/\t.plain=true))
def TO.keep{h h':Heap}{S:Addr}{ks:List (List K)}{B:List (List K×Addr)}(x:TO knd h S ks B)(k:∀o,h.get? S=some o->h'.get? S=some o):TO knd h' S ks B:=
 let ⟨o,es,ep,t,h1,r⟩:=x;⟨o,es,ep,t,k o h1,r⟩
def TO.of{h:Heap}{S:Addr}{ks:List (List K)}{B:List (List K×Addr)}(x:∃o es ep t,TS knd h S o es ep t ks (B.map (·.2)))(j:∀p∈B,AI knd h p.1 p.2):TO knd h S ks B:=by
 obtain⟨o,es,ep,t,X⟩:=x;have a:∀e∈es.toList,∀k b,e=(Ar knd k,Value.ref b)->AI knd h k b->(k,b)∈B:=fun e he k b e1 e2=>by
  obtain⟨g,f,e3⟩:=X.ad e he;rw[e1] at e3;obtain rfl:b=g:=by simpa using e3
  obtain⟨p,hp,rfl⟩:=List.mem_map.mp f;obtain rfl:=e2.inj (j p hp);exact hp
 refine⟨o,es,ep,t,X.at_,X.ex,X.dt,X.tb,X.sz,X.nd,fun e he=>?_,fun k hk=>?_,X.msk,X.wk⟩
 ·obtain⟨k,b,c,d,i⟩:=X.el e he
  exact⟨k,b,c,a e he k b d i,d⟩
 ·obtain⟨b,c,d⟩:=X.ke k hk
  exact⟨b,a _ c k b rfl d,c⟩
def TO.ts{h:Heap}{S:Addr}{ks:List (List K)}{B:List (List K×Addr)}(x:TO knd h S ks B)(g:∀p∈B,AI knd h p.1 p.2):∃o es ep t,TS knd h S o es ep t ks (B.map (·.2)):=by
 obtain⟨o,es,ep,t,h1,h2,i,j,l,q,f,r,s,u⟩:=x;refine⟨o,es,ep,t,h1,h2,i,j,l,q,fun e he=>?_,fun k hk=>?_,s,fun e he=>?_,u⟩
 ·obtain⟨k,b,c,a,d⟩:=f e he
  exact⟨k,b,c,d,g _ a⟩
 ·obtain⟨b,c,a⟩:=r k hk
  exact⟨b,a,g _ c⟩
 ·obtain⟨k,b,c,a,d⟩:=f e he
  exact⟨b,List.mem_map.mpr ⟨_,a,rfl⟩,by rw[d]⟩
end
end STb
namespace L2
open PySem PySem.Spec PyProof.Rows
def bX(P:Program)(w:World)(D:Addr)(ks:Ξ)(B:List (List Int×Addr)):HO:=.ext fun h=>STb.TO (intKind P w) h D ks B
def TB(H:Hp)(B:List (List Int×Addr)):Prop:=∀p∈B,Tp H p.2 p.1
def TB.mono{H H':Hp}{B:List (List Int×Addr)}(h:TB H B)(e:Same H H'):TB H' B:=fun p hp=>e.tp (h p hp)
def TB.zip{H:Hp}{as:List Addr}{pss:Ξ}(h:Tps H as pss):TB H (pss.zip as):=by
 induction h with
 |nil=>intro p hp;simp at hp
 |cons q t ih=>
  intro p hp;rw[List.zip_cons_cons] at hp;rcases List.mem_cons.mp hp with rfl|hp
  ·exact q
  ·exact ih p hp
section
variable{X:Cx}
def TB.keys{aa:Ψ}{s:Shared}{σ:St}{H:Hp}{B:List (List Int×Addr)}(h:TB H B)(I:Inv X aa σ H s):∀p∈B,AI (intKind X.prog X.w) s.heap p.1 p.2:=fun p hp=>by
 obtain⟨b,a,p2,_⟩:=I.tuple (SqT.of (K:=X.K) (h p hp));exact Bx p2 (intsAre_of a)
def B'{P:Program}{w:World}{H:Hp}{h:Heap}{D:Addr}{ks:Ξ}{B:List (List Int×Addr)}(x:STb.TO (intKind P w) h D ks B):zB P w H h D (bX P w D ks B):=
 ⟨x,(let ⟨o,_,_,_,h1,_⟩:=x;⟨o,h1⟩),fun h1 h2 y a=>y.keep fun o e=>a o e⟩
def Ce{aa:Ψ}{s:Shared}{σ:St}{H:Hp}{D:Addr}{ks:Ξ}{B:List (List Int×Addr)}(I:Inv X aa σ H s)(e:H D=some (bX X.prog X.w D ks B)):STb.TO (intKind X.prog X.w) s.heap D ks B:=
 (show zB X.prog X.w H s.heap D (bX X.prog X.w D ks B) from I.hok D _ e).1
def La(hc:X.calm=true)(hu:X.A.units+64<cLine):zU X (.type "set") (fun xs H Q=>∃(l:Addr)(as:List Addr)(pss:Ξ),xs=[.ref l]/\SqL X.K H l (as.map V.ref)/\Tps H as pss/\pss.length<=59/\
  ∀D,H D=none->Q (.ref D) (upd H D (bX X.prog X.w D (STb.dd pss) (pss.zip as)))):=by
 intro aa s σ H xs us Q I r h;obtain⟨l,as,pss,rfl,hq,hp,hz,q⟩:=h;obtain⟨u,rfl,y⟩:=vals1 r;cases y;obtain⟨G,z,p1,_⟩:=I.list hq;obtain rfl:=aT z;have C:=hp.length;have g:=(TB.zip hp).keys I;have E:(pss.zip as).map (·.2)=as:=by rw[List.map_snd_zip ω]
 refine STb.EW (B:=as) (knd:=intKind X.prog X.w) (vals:=pss) (adr:=fun i=>as.getD i 0) (I.ok.hd hc) p1.isList hu ry (by rw[Aj,Ab];omega) (by rw[Aj,Ab];omega) (fun i hi=>by rw[Aj,Ab] at hi;rw[AR,Af hi];exact A9 hi)
  (fun i v e=>?_) (fun j x e=>?_) fun h' tk T f=>?_
 ·have d:(as.map Value.ref)[i]?=some v:=by simpa using e
  rw[Ai] at d;cases c:as[i]? with
  |none=>rw[c] at d;simp at d
  |some a=>
   rw[c] at d;rw[<-An d,AR,c]
   rfl
 ·have F:j<as.length:=by rw[C];exact(List.getElem?_eq_some_iff.mp e).1
  have c:as[j]?=some as[j]:=Af F;rw[AR,c];refine g (x,as[j]) (Ap (i:=j) ?_);rw[List.getElem?_zip_eq_some];exact⟨e,c⟩
 ·refine⟨.ref s⁻¹,_,I.laid (o:=bX X.prog X.w s⁻¹ (STb.dd pss) (pss.zip as)) (fun b u e=>f b u (Ak e) e) (Ag _) (B' (STb.TO.of (by rw[E];exact T) fun p hp=>?_)),rfl,q _ (I.hok.fresh (Ag _))⟩
  exact STb.j8 (g p hp) fun o e=>f _ o (Ak e) e
def Lb(hu:X.A.units+64<cLine):bU X (binaryOp .Sub) (fun x y H Q=>∃g i c f d j,x=.ref g/\y=.ref i/\H g=some (bX X.prog X.w g c d)/\H i=some (bX X.prog X.w i f j)/\TB H d/\TB H j/\c.length<60/\¬c.length / 4>f.length/\
  ∀a,(∀k,k∈a↔k∈c/\k∉f)->∀D,H D=none->Q (.ref D) (upd H D (bX X.prog X.w D a d))):=by
 intro aa s σ H x y v u Q I z C h;obtain⟨g,i,c,f,d,j,rfl,rfl,e1,e2,r,E,hz,hq,q⟩:=h;cases z;cases C;obtain⟨J,L,M,N,F⟩:=(Ce I e1).ts (r.keys I);obtain⟨O,P,S,U,G⟩:=(Ce I e2).ts (E.keys I);refine STb.K7 F G hu ry hz hq fun h' a T l hm=>?_;refine⟨.ref s⁻¹,_,I.laid (t':=s.toks) (o:=bX X.prog X.w s⁻¹ a d) (fun b u e=>l b u (Ak e) e) (Ag _) (B' (STb.TO.of T fun p hp=>?_)),rfl,q a hm _ (I.hok.fresh (Ag _))⟩;exact STb.j8 (r.keys I p hp) fun o e=>l _ o (Ak e) e
def Lc:zU X (.builtin "len") (fun xs H Q=>∃D ks B,xs=[.ref D]/\H D=some (bX X.prog X.w D ks B)/\Q (.int ks.length) H):=by
 intro aa s σ H xs us Q I r h;obtain⟨D,ks,B,rfl,hq,q⟩:=h;obtain⟨u,rfl,a⟩:=vals1 r;cases a;obtain⟨o,es,ep,t,h1,h2,b,c,d,f,g,i,e,j⟩:=Ce I hq;have hs:es.size<=152:=by rcases e with z|z|z|z|z|z<;>omega
 exact call_len_set h1 h2 b (STb.fits_of c) ω ⟨.int ks.length,H,I.tok _,⟨_,by rw[d]⟩,q⟩
end
end L2
end
section
namespace L2
open PySem PySem.Spec PyProof.Rows
def Cf{P:Program}{w:World}(ps:List Int):Ar (zt P w) (ps.map Sum.inl)=Ar (intKind P w) ps:=by
 unfold Ar;rw[At]
 rfl
section
variable{X:Cx}
def Ld(hu:X.A.units+64<cLine):zU X (.type "set") (fun xs H Q=>∃(a:Addr)(kvs:List (List Key×V))(pss:Ξ),xs=[.ref a]/\Rd H a (.dT kvs)/\kvs.map (·.1)=pss.map (·.map Sum.inl)/\pss.length<=59/\
  ∀B,TB H B->∀D,H D=none->Q (.ref D) (upd H D (bX X.prog X.w D (STb.dd pss) B))):=by
 intro aa s σ H xs us Q I r h;obtain⟨a,kvs,pss,rfl,hq,hp,hz,q⟩:=h;obtain⟨u,rfl,F⟩:=vals1 r;cases F;obtain⟨z,y,ys,c,o,es,ep,h1,h2,G,g,P⟩:=(show zB X.prog X.w H s.heap a (.dT kvs) from hq.ok I.hok);have J:kvs.length=ys.length:=A2 c;have d:kvs.length=pss.length:=by simpa using congrArg List.length hp
 have L:es.size=ys.length:=by
  have:=congrArg List.length g;rw[Ab] at this
  simpa using this
 have tps:Tps H (ys.map (·.2.1)) pss:=by
  have:∀{l:List (List Key×V)}{m:List (List Key×Addr×Value)}{pss:Ξ},KT H l m->l.map (·.1)=pss.map (·.map Sum.inl)->Tps H (m.map (·.2.1)) pss:=by
   intro l m pss q
   induction q generalizing pss with
   |nil=>intro e;cases pss with
    |nil=>exact .nil
    |cons p ps=>simp at e
   |cons hq t ih=>intro e;cases pss with
    |nil=>simp at e
    |cons p ps=>
     simp only[Ax,List.cons.injEq] at e;refine .cons ?_ (ih e.2);have:=hq.2.1;rw[e.1,At] at this;exact this
  exact this c hp
 have M:ys.map (·.1)=pss.map (·.map Sum.inl):=by
  rw[<-hp];have:∀{l:List (List Key×V)}{m:List (List Key×Addr×Value)},KT H l m->m.map (·.1)=l.map (·.1):=by
   intro l m q
   induction q with
   |nil=>rfl
   |cons hq t ih=>rw[Ax,Ax,ih,hq.1]
  exact this c
 have v:=TB.zip tps;have C:=v.keys I;have N:(pss.zip (ys.map (·.2.1))).map (·.2)=ys.map (·.2.1):=by rw[List.map_snd_zip (by rw[Ab];omega)]
 refine STb.K' (B:=ys.map (·.2.1)) (knd:=intKind X.prog X.w) (vals:=pss) (adr:=fun i=>(ys.map (·.2.1)).getD i 0) h1 h2.1 G y hu ry ω ω (fun i hi=>by rw[AR,Af (by rw[Ab];omega)];exact A9 _)
  (fun i e x e1 e2=>?_) (fun j x e=>?_) fun h' tk T f=>?_
 ·have hi:i<ys.length:=by rw[<-L];exact(Array.getElem?_eq_some_iff.mp e1).1
  have g3:es.toList[i]?=some e:=by simpa using e1
  have g4:ys[i]?=some ys[i]:=Af hi;rw[g,Ai,g4] at g3;simp only[A6,Bd] at g3;have g5:=congrArg (·[i]?) M;simp only[Ai,g4,e2,A6,Bd] at g5;rw[<-g3,AR,Ai,g4];refine⟨rfl,?_⟩;show Ar (zt X.prog X.w) ys[i].1=_;rw[g5,Cf]
 ·have O:j<(ys.map (·.2.1)).length:=by rw[Ab,<-J,d];exact(List.getElem?_eq_some_iff.mp e).1
  have E:(ys.map (·.2.1))[j]?=some (ys.map (·.2.1))[j]:=Af O;rw[AR,E];refine C (x,(ys.map (·.2.1))[j]) (Ap (i:=j) ?_);rw[List.getElem?_zip_eq_some];exact⟨e,E⟩
 ·refine⟨.ref s⁻¹,_,I.laid (o:=bX X.prog X.w s⁻¹ (STb.dd pss) (pss.zip (ys.map (·.2.1)))) (fun b u e=>f b u (Ak e) e) (Ag _) (B' (STb.TO.of (by rw[N];exact T) fun p hp=>?_)),rfl,q _ v _ (I.hok.fresh (Ag _))⟩
  exact STb.j8 (C p hp) fun o e=>f _ o (Ak e) e
end
end L2
end
section
namespace L2
open PySem PySem.Spec PyProof.Rows
def Fu{a:Type}(f:a->Int):∀(l:List a),(l.map f).Nodup->∀c,(l.filter fun x=>f x==c).length<=1
 |[],_,c=>by simp
 |x::l,h,c=>by
  rw[Ax,List.nodup_cons] at h;have b:=Fu f l h.2 c
  by_cases q:f x=c
  ·rw[List.filter_cons_of_pos (by simpa using q)]
   have:l.filter (fun x=>f x==c)=[]:=List.filter_eq_nil_iff.mpr fun y hy z=>h.1 (by rw[q,<-(by simpa using z:f y=c)];exact List.mem_map_of_mem hy);rw[this];simp
  ·rw[List.filter_cons_of_neg (by simpa using q)]
   exact b
section
variable{X:Cx}
def Le:zU X (.type "dict") (fun xs H Q=>∃(a:Addr)(kvs:List (List Key×V))(pss:Ξ),xs=[.ref a]/\Rd H a (.dT kvs)/\kvs.map (·.1)=pss.map (·.map Sum.inl)/\(pss.map (Ar (intKind X.prog X.w))).Nodup/\
  ∀D,H D=none->Q (.ref D) (upd H D (.dT kvs))):=by
 intro aa s σ H xs us Q I r h;obtain⟨a,kvs,pss,rfl,hq,hp,A,q⟩:=h;obtain⟨u,rfl,C⟩:=vals1 r;cases C;obtain⟨z,y,ys,c,o,es,ep,h1,h2,E,g,F⟩:=(show zB X.prog X.w H s.heap a (.dT kvs) from hq.ok I.hok);have L:kvs.length=ys.length:=A2 c;have M:es.size=ys.length:=by
  have:=congrArg List.length g;rw[Ab] at this
  simpa using this
 have J:ys.map (·.1)=pss.map (·.map Sum.inl):=by
  rw[<-hp];have:∀{l:List (List Key×V)}{m:List (List Key×Addr×Value)},KT H l m->m.map (·.1)=l.map (·.1):=by
   intro l m q
   induction q with
   |nil=>rfl
   |cons hq t ih=>rw[Ax,Ax,ih,hq.1]
  exact this c
 have f:es.toList.map (·.hash)=pss.map (Ar (intKind X.prog X.w)):=by
  rw[g,At];have e1:ys.map ((·.hash) ∘ entryOfKey (tupleKind (zt X.prog X.w)))=(ys.map (·.1)).map (Ar (zt X.prog X.w)):=by rw[At];rfl
  rw[e1,J,At];exact A7 fun ps _=>Cf ps
 have tk:∀e∈es.toList,∃b,e.key=.ref b/\s.TypeIs (.ref b) "tuple":=fun e he=>by
  rw[g] at he;obtain⟨d,hw,rfl⟩:=List.mem_map.mp he;have:∀{l:List (List Key×V)}{m:List (List Key×Addr×Value)},KT H l m->∀d∈m,∃ks:List Key,H d.2.1=some (.tup (ks.map kV)):=by
   intro l m q
   induction q with
   |nil=>intro d hw;cases hw
   |cons hq t ih=>
    intro d hw;rcases List.mem_cons.mp hw with rfl|hw
    ·exact⟨_,hq.2.1⟩
    ·exact ih d hw
  obtain⟨ks,G⟩:=this c d hw;exact⟨d.2.1,rfl,(kX (P:=X.prog) (w:=X.w) I.hok G).typeIs⟩
 refine DCp.KZ h1 h2 E y ω tk (fun e he=>?_) fun h' p v x=>?_
 ·have:=Fu (fun e:DictEntry=>e.hash) es.toList (by rw[f];exact A) e.hash
  rw[<-Aw,Array.toList_filter];exact this
 ·have j:=I.hok.fresh (Ag s⁻¹)
  have hy:(s⁻¹==A0)=false:=by
   have:=I.big
   simpa using Nat.ne_of_gt this
  have i:KT (upd H s⁻¹ (.dT kvs)) kvs ys:=KT.keeps c fun b zs e=>by rw[zl (zg e j)];exact e
  exact⟨.ref s⁻¹,_,I.laid (t':=s.toks) (o:=.dT kvs) (fun b u e=>x b u (Ak e) e) (Ag _) (show zB X.prog X.w _ h' _ (.dT kvs) from⟨z,hy,ys,i,_,es,p,v,⟨rfl,rfl,rfl⟩,rfl,g,F⟩),rfl,q _ j⟩
end
end L2
end
section
namespace DEq
open PySem
section
variable{prog:Program}{w:World}{K:Type}[DecidableEq K]{knd:HeapKind prog w K}{A:Around}{E:Ω}{s:Shared}
def Lf{id:String}{a b:Addr}{xs ys:List (K×Addr×Value)}{Q:Bool->Shared->Prop}(hu:knd.room A)(U:(a==A0)=false)(hb:(b==A0)=false)(hx:s.heap.DictOfH knd a xs)(hy:s.heap.DictOfH knd b ys)(W:xs.length=ys.length)(X:∀(i:Nat) k p v,xs[i]?=some (k,p,v)->∃q n t t',v=.int n t/\ys[i]?=some (k,q,.int n t'))(h:Q true s):wpAny (model prog w) A (Builtin.Dict.samePairs id a b) Q E s:=by
 obtain⟨Z,c,pa,g,qc,l,G,L,qG⟩:=hx;obtain⟨ob,M,pb,u,N,z,C,O,H⟩:=hy;have I:=size_of_entries (knd:=knd) G;have S:=size_of_entries (knd:=knd) C;unfold Builtin.Dict.samePairs Builtin.Dict.showsAll;rw[if_neg (by rw[U];exact Aq),if_neg (by rw[hb];exact Aq)];refine Aa (Ac (Aa (Ac ?_)));refine Aa (AD g l ?_);dsimp only;refine Aa (AD u z ?_);rw[if_neg (by rw[I,S,W];simp)];refine Aa (wpAny_dictEpoch g l ?_);refine Aa ?_;rw[Std.Legacy.Range.forIn_eq_forIn_range'];simp only[Std.Legacy.Range.size,Nat.sub_zero,Nat.add_sub_cancel,Nat.div_one];refine wpAny_forIn_list _ (fun rest r s'=>s'=s/\r.1=none/\∃i,rest=List.range' i (c.size-i)/\i<=c.size) _ ?_ ?_ _ _ ⟨rfl,rfl,0,by simp,AK _⟩
 ·rintro x rest r s' ⟨rfl,d,i,hr,hi⟩
  have f:i<c.size:=by
   rcases Nat.lt_or_ge i c.size with h|h
   ·exact h
   ·rw[Nat.sub_eq_zero_of_le h] at hr;simp at hr
  obtain⟨rfl,P⟩:x=i/\rest=List.range' (i+1) (c.size-(i+1)):=by
   have e:c.size-i=(c.size-(i+1))+1:=ω
   rw[e,List.range'_succ] at hr;injection hr with h1 h2
   exact⟨h1,h2⟩
  obtain⟨⟨k,p,v⟩,hkv⟩:∃y,xs[x]?=some y:=⟨xs[x]'(by rw[<-I];exact f),Af _⟩;obtain⟨q,n,t,t',rfl,D⟩:=X x k p v hkv;have hex:c[x]?=some ⟨knd.hash k,.ref p,.int n t⟩:=by rw[entry_at G x,hkv];rfl
  have F:knd.is s'.heap k p:=L _ (Ap hkv);refine Aa (AD g l ?_);rw[hex];dsimp only;refine Aa (AA (Aa (wpAny_dictFind_heap hu F u z C O H (fun o=>absurd D (o x _)) fun j Y J=>?_)));obtain rfl:=idxH_unique H J D;dsimp only;refine Aa (AD u z ?_);have T:M[j]?=some ⟨knd.hash k,.ref q,.int n t'⟩:=by rw[entry_at C j,D];rfl
  rw[T];dsimp only;refine AA (wpAny_eqBool_int ?_);rw[if_neg (by simp)];refine Aa (wpAny_dictEpoch g l ?_);rw[if_neg (by simp)];exact Ac ⟨rfl,rfl,j+1,P,f⟩
 ·rintro⟨r1,r2⟩ s' ⟨rfl,d,_⟩
  simp only at d;subst d;exact Ac h
end
end DEq
end
section
namespace DEq
open PySem
section
variable{prog:Program}{w:World}{K:Type}[DecidableEq K]{knd:HeapKind prog w K}{A:Around}{E:Ω}{s:Shared}
def Lg{a b:Addr}{xs ys:List (K×Addr×Value)}{Q:Bool->Shared->Prop}(hu:∀A':Around,A'.units<=A.units+8->knd.room A')(d:A.units<cLine)(f:(a==A0)=false)(hb:(b==A0)=false)(hx:s.heap.DictOfH knd a xs)(hy:s.heap.DictOfH knd b ys)(g:xs.length=ys.length)(j:∀(i:Nat) k p v,xs[i]?=some (k,p,v)->∃q n t t',v=.int n t/\ys[i]?=some (k,q,.int n t'))(h:Q true s):wpAny (model prog w) A (eqBool (.ref a) (.ref b)) Q E s:=by
 unfold eqBool
 try with_reducible refine AA ?_
 show wpAny _ _ (if(Value.ref a==Value.ref b)=true then _ else _) Q E s
 by_cases c:(Value.ref a==Value.ref b)=true
 ·rw[if_pos c]
  exact Aa (wpAny_rule (Ac h))
 ·rw[if_neg c]
  refine Aa (wpAny_richCompare_same_room (op:=.Eq) hx.typeIs hy.typeIs F.slot_dict_eq
   (AC F.slot_dict_eq hx.typeIs F.entry_dict_eq ?_ (F.args_dict_eq_2 _ _)) d)
  unfold Builtin.«dict.__eq__»
  wp_delta
  refine Aa ?_;unfold Builtin.Dict.dictSlotArgs;refine Aa (wpAny_notOrdered_dict hx.typeIs ?_);refine Aa (show wpAny _ _ (pure (Value.ref a,[Value.ref b])) _ _ _ from Ac ?_);refine Ac ?_;dsimp only;refine Aa (A8 hy.typeIs DCp.oz ?_);simp only[A3,Ah,if_false];refine Aa (show wpAny _ _ (pure a) _ _ _ from Ac ?_);refine Aa (show wpAny _ _ (pure b) _ _ _ from Ac ?_);refine Aa (Lf (hu _ (by show A.units+1<=_;omega)) f hb hx hy g j ?_);exact Ac ⟨_,rfl,(fun e=>nomatch e),wpAny_truthy_bool h⟩
end
end DEq
end
section
namespace L2
open PySem PySem.Spec PyProof.Rows
def sf{P:Program}{w:World}{H:Hp}{h:Heap}{a:Addr}{kvs:List (List Key×V)}{pss:Ξ}(ok:HOk P w H h)(hq:Rd H a (.dT kvs))(hp:kvs.map (·.1)=pss.map (·.map Sum.inl)):(a==A0)=false/\∃xs:List (List Int×Addr×Value),(∀u d,h.DictOfH (tupleKind (intKind u d)) a xs)/\xs.length=kvs.length/\∀(i:Nat) x,xs[i]?=some x->pss[i]?=some x.1/\∃kv,kvs[i]?=some kv/\RelV kv.2 x.2.2:=by
 obtain⟨z,y,ys,g,o,es,ep,h1,h2,A,C,v⟩:=(show zB P w H h a (.dT kvs) from hq.ok ok);have key:∀{l:List (List Key×V)}{m:List (List Key×Addr×Value)}{c:Ξ},KT H l m->l.map (·.1)=c.map (·.map Sum.inl)->
   ∃xs:List (List Int×Addr×Value),m=xs.map (fun x=>(x.1.map Sum.inl,x.2))/\xs.map (·.1)=c/\(∀x∈xs,Tp H x.2.1 x.1)/\xs.length=l.length/\∀(i:Nat) x,xs[i]?=some x->c[i]?=some x.1/\∃kv,l[i]?=some kv/\RelV kv.2 x.2.2:=by
  intro l m c q
  induction q generalizing c with
  |nil=>intro e;cases c with
   |nil=>exact⟨[],rfl,rfl,(fun x hx=>by cases hx),rfl,(fun i x e=>by simp at e)⟩
   |cons p ps=>simp at e
  |@cons p q' ps yu hq t ih=>intro e;cases c with
   |nil=>simp at e
   |cons r rs=>
    simp only[Ax,List.cons.injEq] at e;obtain⟨xs,e1,e2,e3,j,s⟩:=ih e.2;have hk:=hq.2.1;rw[e.1,At] at hk;refine⟨(r,q'.2)::xs,?_,by rw[Ax,e2],fun x hx=>?_,by simp[j],fun i x ex=>?_⟩
    ·rw[Ax,<-e1,<-e.1,hq.1]
    ·rcases List.mem_cons.mp hx with rfl|hx
     ·exact hk
     ·exact e3 x hx
    ·cases i with
     |zero=>
      simp at ex;subst ex;exact⟨rfl,p,rfl,hq.2.2⟩
     |succ i=>simpa using s i x (by simpa using ex)
 obtain⟨xs,e1,e2,e3,j,s⟩:=key g hp;refine⟨y,xs,fun u d=>⟨o,es,ep,h1,h2,A,?_,fun x hx=>?_,?_⟩,j,s⟩
 ·rw[C,e1,At]
  refine A7 fun x _=>?_;show DictEntry.mk (Ar (zt P w) (x.1.map Sum.inl)) (.ref x.2.1) x.2.2=DictEntry.mk (Ar (intKind u d) x.1) (.ref x.2.1) x.2.2;rw[Cf]
  rfl
 ·obtain⟨_,F,r,p⟩:=(show zB P w H h x.2.1 (.tup (x.1.map V.int)) from ok x.2.1 _ (e3 x hx))
  exact Bx p (intsAre_of r)
 ·have D:xs.map (fun x=>x.1.map (Sum.inl:Int->Key))=(xs.map (·.1)).map (·.map Sum.inl):=by rw[At];rfl
  rw[e1,At] at v;have E:((xs.map (·.1)).map (·.map (Sum.inl:Int->Key))).Nodup:=by rw[<-D];exact v
  exact List.Pairwise.of_map _ (fun a b f e=>f (by rw[e])) E
def Lh{P:Program}{w:World}{A:Around}{H:Hp}{s:Shared}{a b:Addr}{kvs:List (List Key×V)}{pss:Ξ}{ns:List Int}(hu:A.units+64<cLine)(ok:HOk P w H s.heap)(y:Rd H a (.dT kvs))(hb:Rd H b (.dT kvs))(hp:kvs.map (·.1)=pss.map (·.map Sum.inl))(C:kvs.map (·.2)=ns.map V.int):SeqAt.EqAt A s (.ref a) (.ref b) true:=by
 intro prog w E Q h;obtain⟨d,xs,f,D,g⟩:=sf ok y hp;obtain⟨j,ys,l,bl,o⟩:=sf ok hb hp;refine DEq.Lg (knd:=tupleKind (intKind prog w)) (fun A' z=>show A'.units<cLine from ω) ω d j (f prog w) (l prog w) ω (fun i k p v e=>?_) h;obtain⟨g1,kv,g2,g3⟩:=g i _ e;have hi:i<ys.length:=by
  have:=(List.getElem?_eq_some_iff.mp e).1;omega
 obtain⟨f1,F,f2,f3⟩:=o i ys[i] (Af hi);rw[g2] at f2;obtain rfl:=An f2;rw[g1] at f1;have u:k=ys[i].1:=An f1;have c:=congrArg (·[i]?) C;simp only[Ai,g2,A6] at c;cases en:ns[i]? with
 |none=>rw[en] at c;simp at c
 |some n=>
  rw[en] at c;have x:kv.2=V.int n:=by simpa using c
  rw[x] at g3 f3;obtain⟨t,q⟩:=(show ∃t,v=Value.int n t from g3);obtain⟨t',r⟩:=(show ∃t,ys[i].2.2=Value.int n t from f3);refine⟨ys[i].2.1,n,t,t',q,?_⟩;rw[Af hi,u,<-r]
end L2
end
section
namespace PySem.RvT
open PyProof.Rows
def oB:Slot "reversed" "__next__" "reversed.__next__":=
 .of (owner:="reversed") (n:="__next__") (by rw[typeLookup_type,builtinLookup_eq_fast];kernel_rfl) δ δ δ
  (by first|exact .inl δ|exact .inr δ) (by rw[isSubtype_type];kernel_rfl)
def Fv:entryFor table "reversed.__next__"=some Builtin.«reversed.__next__»:=entryFor_of_tree (by kernel_rfl)
def Fx(a:Value):argsOk "reversed.__next__" ⟨[a],[]⟩:=by unfold argsOk;kernel_rfl
def Fy:Slot "reversed" "__iter__" "reversed.__iter__":=
 .of (owner:="reversed") (n:="__iter__") (by rw[typeLookup_type,builtinLookup_eq_fast];kernel_rfl) δ δ δ
  (by first|exact .inl δ|exact .inr δ) (by rw[isSubtype_type];kernel_rfl)
def Li(a:Value):argsOk "reversed.__iter__" ⟨[a],[]⟩:=by unfold argsOk;kernel_rfl
def Lj:entryFor table "reversed.__iter__"=some Builtin.«dict_keyiterator.__iter__»:=
 entryFor_alias (id':="dict_keyiterator.__iter__") (by kernel_rfl) (by first|rfl|decide +kernel|(unfold String.splitOn;simp +decide [String.splitOnAux])) δ (by kernel_rfl)
def Lk:typeLookup (.type "tuple") "__reversed__"=pure none:=by rw[typeLookup_type,builtinLookup_eq_fast];kernel_rfl
def Ll:isSubtype (.type "tuple") (.type "dict")=pure false:=by rw[isSubtype_type];kernel_rfl
def Lm:Slot "reversed" "__init__" "object.__init__":=
 .of (owner:="object") (n:="__init__") (by rw[typeLookup_type,builtinLookup_eq_fast];kernel_rfl) δ δ δ
  (by first|exact .inl δ|exact .inr δ) (by rw[isSubtype_type];kernel_rfl)
def Cg:TypeCalled "reversed" "reversed.__new__" "object.__init__":=
 ⟨δ,δ,⟨_,_,F.mro_reversed⟩,F.made_reversed,δ,F.sub_reversed_self,Lm⟩
def ka(t:Addr)(i:Int):Obj:={cls:=.type "reversed",data:=.fields #[.ref t,rawInt i]}
def IsRT(h:Heap)(a t:Addr)(i:Int):Prop:=∃o,h.get? a=some o/\o.cls=.type "reversed"/\o.data=.fields #[.ref t,rawInt i]
section
variable{prog:Program}{w:World}{A:Around}{E:Ω}{s:Shared}
def IsRT.typeIs{a t:Addr}{i:Int}(x:IsRT s.heap a t i):s.TypeIs (.ref a) "reversed":=let ⟨o,ho,hc,_⟩:=x;⟨o,ho,hc⟩
def IsRT.at{h h':Heap}{a l:Addr}{i:Int}(x:IsRT h a l i)(e:∀o,h.get? a=some o->h'.get? a=some o):IsRT h' a l i:=let ⟨o,ho,r⟩:=x;⟨o,e _ ho,r⟩
def Ln{t:Addr}{c:Array Value}{Q₁:Ω}(d:IsTup s.heap t c)(hz:c.size<=sizeLine)(h:∀tk,Q₁ (.ref s⁻¹) {s with heap:=s.heap.push (ka t ((c.size:Int)-1)),toks:=tk}):codeAny (model prog w) A (.call (.builtin "reversed.__new__") ⟨[.type "reversed",.ref t],[]⟩) (wants Q₁ E) s:=by
 refine codeAny_of_tree ?_;show wpAny _ A.in1 (do checkBuiltinCall "reversed.__new__" ⟨[.type "reversed",.ref t],[]⟩;again (.builtin "reversed.__new__" ⟨[.type "reversed",.ref t],[]⟩)) _ _ s;refine Aa (Bi (F.newCall_reversed_1 _) (Ac ⟨plainId_quiet F.plain_reversed_new _,AW F.entry_reversed_new ?_⟩));rw[A4 F.plain_reversed_new _];unfold Builtin.«reversed.__new__»;refine Aa (Bi (newClass_reversed _) ?_)
 try dsimp only
 refine Aa (Bi (a:=()) (by first|rfl|kernel_rfl) ?_);refine Aa (Bi (a:=()) (by first|rfl|kernel_rfl) ?_)
 try dsimp only
 refine Aa (wpAny_specialOf d.typeIs Lk ?_)
 try dsimp only
 refine Aa (wpAny_mono (Q:=fun b s'=>b=true/\s'=s) (E:=fun _ _=>False) ?slot ?rest fun _ _ z=>z.elim)
 case slot=>
  show wpAny _ _ (isInstance (.ref t) (.type "dict") >>= _) _ _ s;refine Aa (A8 d.typeIs Ll ?_)
  try dsimp only
  simp only[Ah,if_false];refine Aa (wpAny_specialOf d.typeIs PyProof.Rows.slot_tuple_getitem.lookup ?_)
  try dsimp only
  rw[if_pos δ];exact Ac ⟨rfl,rfl⟩
 case rest=>
  rintro b s' ⟨rfl,rfl⟩;simp only[A3,Ah,if_false];refine Aa (len_tuple d (by rw[sizeLine_eq] at hz;omega) ?_);refine Aa (m:=asInt? _) (Ac ?_)
  try dsimp only
  refine Aa ?_;show wpAny _ _ (newObj (.type "reversed") (.fields #[.ref t,rawInt ((c.size:Int)-1)])) _ _ _;refine AF (Ac ?_);exact h _
def Lo{t:Addr}{c:Array Value}{Q:Ω}(d:IsTup s.heap t c)(hz:c.size<=sizeLine)(h:∀tk,Q (.ref s⁻¹) {s with heap:=s.heap.push (ka t ((c.size:Int)-1)),toks:=tk}):wpAny (model prog w) A (call (.type "reversed") [.ref t]) Q E s:=by
 refine callType_codes (Q₁:=fun obj a=>a.TypeIs obj "reversed"/\Q obj a) Cg (F.typeCall_reversed_1 _) F.entry_object_init (Ln d hz fun tk=>⟨⟨_,Al _ rfl,rfl⟩,h tk⟩) fun obj a b=>?_;exact⟨b.1,F.args_object_init_2 obj _,object_init_meets Cg.init.lookup Cg.made ξ prog w A.in1 _ a ⟨b.1,rfl,b.2⟩⟩
def next_item{it t:Addr}{i:Nat}{c:Array Value}{x:Value}{Q:Option Value->Shared->Prop}(d:IsRT s.heap it t (i:Int))(e:IsTup s.heap t c)(hx:c[i]?=some x)(hz:c.size<=sizeLine)(g:∀h' tk,IsRT h' it t ((i:Int)-1)->AQ it s.heap h'->Q (some x) {s with heap:=h',toks:=tk}):wpAny (model prog w) A (pyNext (.ref it)) Q E s:=by
 obtain⟨o,b,hc,hd⟩:=id d;unfold pyNext;refine Aa (wpAny_attempt (AS (name:=Bm "__next__") d.typeIs oB
  (AC oB d.typeIs Fv ?_ (Fx _))))
 unfold Builtin.«reversed.__next__»;refine Aa (Bi (a:=(Value.ref it,[])) rfl ?_)
 try dsimp only
 refine Aa (AT b hd (x:=.ref t) rfl ?_);refine Aa (AT b hd (x:=rawInt (i:Int)) rfl ?_);show wpAny _ _ (if(i:Int)<0 then _ else _) _ _ s;rw[if_neg ω];refine Aa (wpAny_specialOf e.typeIs PyProof.Rows.slot_tuple_getitem.lookup ?_);simp only[Option.isNone_some,Ah,if_false];have hi:i<c.size:=(Array.getElem?_eq_some_iff.mp hx).1;have f:seqIndex? (i:Int) c.size=some i:=by
  unfold seqIndex?;simp;omega
 refine Aa (wpAny_mkInt ?_);refine Aa (wpAny_attempt (getItem_tuple (s:={s with toks:=s.toks+1}) (j:=i) e ω (by rw[sizeLine_eq] at hz;omega) f hx ?_))
 try dsimp only
 refine Aa (AT (s:={s with toks:=s.toks+1}) b hd (x:=rawInt (i:Int)) rfl ?_);show wpAny _ _ (setField (.ref it) 1 (rawInt ((i:Int)-1)) >>= _) _ _ _;refine Aa (Bk (s:={s with toks:=s.toks+1}) b hd (by simp) ?_);refine Ac ⟨x,rfl,Ac (g _ _ ?_ (AL ..))⟩;exact⟨_,A5 _ b (Obj.isFreed_of_fields (A1 hd _)),(Obj.cls_mapFields ..).trans hc,by
  rw[A1 hd];simp⟩
def next_end{it t:Addr}{Q:Option Value->Shared->Prop}(f:A.handled=none)(d:IsRT s.heap it t (-1))(h:∀h',(∀b o,b≠it->s.heap.get? b=some o->h'.get? b=some o)->Q none {s with heap:=h'}):wpAny (model prog w) A (pyNext (.ref it)) Q E s:=by
 obtain⟨o,c,hc,hd⟩:=id d;unfold pyNext;refine Aa (wpAny_attempt (AS (name:=Bm "__next__") d.typeIs oB
  (AC oB d.typeIs Fv ?_ (Fx _))))
 unfold Builtin.«reversed.__next__»;refine Aa (Bi (a:=(Value.ref it,[])) rfl ?_)
 try dsimp only
 refine Aa (AT c hd (x:=.ref t) rfl ?_);refine Aa (AT c hd (x:=rawInt (-1)) rfl ?_);show wpAny _ _ (if(-1:Int)<0 then _ else _) _ _ s;rw[if_pos ξ];refine Aa (wpAny_rule ?_);refine Aa ?_;show wpAny _ _ (setField (.ref it) 1 (rawInt (-1)) >>= fun _=>setField (.ref it) 0 .none) _ _ _;refine Aa (Bk c hd (by simp) ?_);have dl:=A5 (Obj.mapFields fun vs=>vs.setIfInBounds 1 (rawInt (-1))) c (Obj.isFreed_of_fields (A1 hd _));have g:(Obj.mapFields (fun vs=>vs.setIfInBounds 1 (rawInt (-1))) o).data=.fields #[.ref t,rawInt (-1)]:=by rw[A1 hd];simp
 refine Bk dl g (by simp) ?_;refine Aa ?_;show wpAny _ _ (newExc (.type "StopIteration") [] >>= _) _ _ _;refine Aa ?_;simp only[newExc,newTuple];refine Aa (AF ?_ (by size_fits));refine Aa (m:=firstArgMember _ _) (Bi (a:=Value.none) (by first|rfl|(simp only[firstArgMember];rfl)) ?_);refine AF ?_ (by size_fits);simp only[raiseNew];refine Aa (wpAny_handled ?_)
 first|rw[show A.in1.handled=none from f]|rw[f]
 refine Aa (Ac (wpAny_throw ?_));refine Aa (A8 (T:="StopIteration") (b:=true) ⟨_,Al _ rfl,rfl⟩ isSubtype_stop ?_);refine Ac (h _ fun b ob hb e=>?_);refine Ad _ (Ad _ ?_);rw[Heap.get?_update_ne _ _ _ _ hb,Heap.get?_update_ne _ _ _ _ hb];exact e
def Fz{it t:Addr}{i:Int}{Q:Ω}(a:IsRT s.heap it t i)(h:Q (.ref it) s):wpAny (model prog w) A (pyIter (.ref it)) Q E s:=by
 refine wpAny_pyIter_slot a.typeIs Fy (AC Fy a.typeIs Lj ?_ (Li _));show wpAny _ _ (ret (.ref it)) _ _ s;exact Ac ⟨_,rfl,"reversed",_,a.typeIs,oB.lookup,h⟩
end
end PySem.RvT
namespace L2
open PySem PySem.Spec PyProof.Rows
end L2
end
section
namespace L2
open PySem PySem.Spec PyProof.Rows
mutual
inductive DV(K:Ae)(H:Hp):V->PyData->Prop where
 |bl (b:Bool):DV K H (.bl b) (.bool b)
 |int (i:Int):DV K H (.int i) (.int i)
 |str (z:Str):DV K H (.str z) (.str z)
 |lst {l:Addr} {xs:List V} {ds:List PyData} (h:SqL K H l xs) (t:DVs K H xs ds):DV K H (.ref l) (.list ds)
inductive DVs(K:Ae)(H:Hp):List V->List PyData->Prop where
 |nil:DVs K H [] []
 |cons {x:V} {d:PyData} {xs:List V} {ds:List PyData} (h:DV K H x d) (t:DVs K H xs ds):DVs K H (x::xs) (d::ds)
end
section
variable{X:Cx}{aa:Ψ}{σ:St}{H:Hp}{s:Shared}
mutual
def DV.reads(I:Inv X aa σ H s):∀{x:V}{d:PyData}{u:Value},DV X.K H x d->RelV x u->∃a,Reads s.heap u d a
 |_,_,_,.bl b,r=>by cases r;exact⟨_,.bool b⟩
 |_,_,_,.int i,r=>by obtain⟨t,rfl⟩:=r;exact⟨_,.int i t⟩
 |_,_,_,.str z,r=>by obtain⟨t,rfl⟩:=r;exact⟨_,.str z t⟩
 |_,_,_,.lst h t,r=>by
  cases r;obtain⟨f,c,p,_⟩:=I.list h;obtain⟨o,e,hc,n,hd⟩:=p.isList;obtain⟨a,q⟩:=DVs.reads I t c;exact⟨_,.list e hc hd (by simpa using q)⟩
def DVs.reads(I:Inv X aa σ H s):∀{xs:List V}{ds:List PyData}{us:List Value},DVs X.K H xs ds->Vals xs us->∃c,ReadsAll s.heap us ds c
 |_,_,_,.nil,.nil=>⟨_,.nil⟩
 |_,_,_,.cons h t,.cons r rs=>by
  obtain⟨a,q⟩:=DV.reads I h r;obtain⟨b,d⟩:=DVs.reads I t rs;exact⟨_,.cons q d⟩
end
end
def oG(neg:Bool)(K:Ae):R2:=fun x y H Q=>∃d e,DV K H x d/\DV K H y e/\SeqAt.shaped d=true/\SeqAt.shaped e=true/\SeqAt.noMix d e=true/\Q (.bl (if neg then !same d e else same d e)) H
section
variable{X:Cx}
def FB(hu:X.A.units+64<cLine):bU X (compareOp .NotEq) (oG true X.K):=by
 intro aa s σ H x y v u Q I a b h;obtain⟨d,e,h1,h2,c,f,nm,q⟩:=h;obtain⟨j,g⟩:=h1.reads I a;obtain⟨l,i⟩:=h2.reads I b;exact ne_dataH_same g i c f hu nm ⟨.bl _,H,I,rfl,q⟩
end
abbrev kb(ns:List Int):PyData:=.list (ns.map Bj)
def Lp(ns ms:List Int):same (kb ns) (kb ms)=decide (ns=ms):=by simp only[same];exact PySem.W.ke_sameAll ns ms
def Lq(a b:List Int):SeqAt.noMix (kb a) (kb b)=true:=SeqAt.noMix_of_shape (.list .int) rfl _ _ (by simp[Shape.has]) (by simp[Shape.has])
def FC{K:Ae}{H:Hp}:∀ns:List Int,DVs K H (ns.map V.int) (ns.map Bj)
 |[]=>.nil
 |n::r=>.cons (.int n) (FC r)
def FD{K:Ae}{H:Hp}{l:Addr}{ns:List Int}(h:SqL K H l (ns.map V.int)):DV K H (.ref l) (kb ns):=.lst h (FC ns)
end L2
end
section
namespace L2
open PySem PySem.Spec PyProof.Rows
def Lr(i j:Int):Prop:=0<j/\j<18446744073709551616
section
variable{X:Cx}
def FE:bU X (binaryOp .FloorDiv) (rI Lr fun i j=>.int (i / j)):=qu fun i j _ _ _ _ _ hc q=>by
 have h1:(0:Int)<j:=hc.1;have h2:j<18446744073709551616:=hc.2;refine floordiv_int ω (by rw[Int.fdiv_eq_ediv_of_nonneg i ω];exact q) (.inl (PyProof.noPylong_of_log2 ?_));have a:j.natAbs≠0:=ω
 have b:j.natAbs.log2<64:=(Nat.log2_lt a).mpr ω;omega
end
end L2
end
section
namespace K56
open K1
open PySem L2 STb
abbrev Cj:Stmt:=top 46
abbrev kd:Stmt:=top 47
abbrev kf:Stmt:=top 48
def FF(x y:Int):Prop:=0<=x/\(y=0\/(y=1/\x<4294967296))
def zK(H:Hp)(p:Addr):Prop:=∃x y,H p=some (.lst [.int x,.int y])/\FF x y
def zx(p:Addr)(H H':Hp):Prop:=∀b o,b≠p->H b=some o->H' b=some o
def zx.trans{p:Addr}{H H1 H2:Hp}(a:zx p H H1)(b:zx p H1 H2):zx p H H2:=fun c o hc e=>b c o hc (a c o hc e)
def zx.of{p:Addr}{H H1:Hp}(a:Same H H1):zx p H H1:=fun c o _ e=>a c o e
def zx.free{p:Addr}{H H':Hp}(e:zx p H H')(hb:zK H p)(a:zK H' p){l:Addr}(h:H' l=none):H l=none:=by
 cases q:H l with
 |none=>rfl
 |some o=>
  obtain⟨x,y,e1,_⟩:=a;have b:l≠p:=fun z=>by rw[z,e1] at h;cases h
  rw[e l o b q] at h;cases h
def zK.same{H H':Hp}{p:Addr}(b:zK H p)(e:Same H H'):zK H' p:=let ⟨x,y,h,o⟩:=b;⟨x,y,e _ _ h,o⟩
def zK.ne{H:Hp}{p l:Addr}{as:List Addr}(b:zK H p)(h:H l=some (.lst (as.map V.ref))):l≠p:=by
 obtain⟨x,y,e,_⟩:=b;refine a0 h e fun z=>?_;injection z with z
 cases as with
 |nil=>cases z
 |cons a r=>rw[Ax] at z;cases z
def zK.net{H:Hp}{p t:Addr}{xs:List V}(b:zK H p)(h:H t=some (.tup xs)):t≠p:=by
 obtain⟨x,y,e,_⟩:=b;exact a0 h e (by intro z;cases z)
def zx.tp{p:Addr}{H H':Hp}{a:Addr}{ps:List Int}(e:zx p H H')(b:zK H p)(h:Tp H a ps):Tp H' a ps:=e _ _ (b.net h) h
def zx.tps{p:Addr}{H H':Hp}{as:List Addr}{pss:Ξ}(e:zx p H H')(b:zK H p)(h:Tps H as pss):Tps H' as pss:=Paired.mapP h fun _ _ q=>e.tp b q
def zx.then{p:Addr}{H H1:Hp}{a:Addr}{o:HO}(e:zx p H H1)(h:H a=none):zx p H (L2.upd H1 a o):=fun b u hb q=>by rw[zl (zg q h)];exact e b u hb q
def zK.upd{H:Hp}{p l:Addr}{o:HO}(b:zK H p)(h:l≠p):zK (L2.upd H l o) p:=let ⟨x,y,e,k⟩:=b;⟨x,y,by rw[zl h.symm];exact e,k⟩
def zK.new{H:Hp}{p l:Addr}{o:HO}(b:zK H p)(h:H l=none):zK (L2.upd H l o) p:=b.same (Same.new h)
section
variable{P:Program}{w:World}{K:Ae}{mg:Str->Option Value}{base:Heap}
def FG(K:Ae):Sp:=fun vs H Q _=>∃(l:Addr)(ns:List Int),vs=[.ref l,.int 0]/\SqL K H l (ns.map V.int)/\∀n,Q (.int n) H
def Ls:zn ["script","k"] ["script","k"] (zb Cj):=⟨rfl,rfl,rfl,δ,rfl,δ,δ⟩
def Lu{f:Addr}{fd:FuncData}(F:Fun K "_law_cell_at" "_law_cell_at" Cj f fd)(B:Bt mg):FnOk P w K mg base aw 1 f fd ["script","k"] (FG K):=by
 refine F.ok Ls (fun vs H Q E h=>?_) (fun cdv A outer s H vs Q E hr h=>?_)
 ·obtain⟨l,ns,rfl,_⟩:=h;rfl
 ·obtain⟨l,ns,rfl,a,k⟩:=h
  refine⟨_,za (zN (zo kO (pv 1) (zh zi rfl B.len zM (ac (pv 0) al)) (aq _)) (zd (zr (zI zC (pv 0) (pv 1) (fun _ _=>rfl)))) zv) (zd (zr ze)),?_⟩;refine⟨_,rfl,_,rfl,l,_,rfl,.inl a,_,_,rfl,rfl,_,rfl,?_⟩;refine bc (fun h1=>?_) (fun h1=>?_)
  ·cases ns with
   |nil=>have:=of_decide_eq_true h1;simp at this
   |cons n ns=>exact⟨_,rfl,_,rfl,l,_,_,_,rfl,rfl,a,zu (j:=0) rfl,k n⟩
  ·exact k 0
def FH:Sp:=fun vs H Q _=>∃n,vs=[.int n]/\∀p x y,H p=none->FF x y->Q (.ref p) (upd H p (.lst [.int x,.int y]))
def Lv:zn ["cell"] ["cell"] (zb kd):=⟨rfl,rfl,rfl,δ,rfl,δ,δ⟩
def Lw{f:Addr}{fd:FuncData}(F:Fun K "_law_box" "_law_box" kd f fd):FnOk P w K mg base aw 1 f fd ["cell"] FH:=by
 refine F.ok Lv (fun vs H Q E h=>?_) (fun cdv A outer s H vs Q E hr h=>?_)
 ·obtain⟨n,rfl,_⟩:=h;rfl
 ·obtain⟨n,rfl,k⟩:=h
  refine⟨_,za (zN (zo Ix (pv 0) (zD qx ze ze) (aq _)) (zd (zr (zQ (ac (zD kN (pv 0) (zD qx ze ze)) (ac ze al))))) zv)
   (zd (zr (zQ (ac (zD gb (zD dY (zD f_ (zD gb (pv 0) (zD qx ze ze)) ze) ze) ze) (ac ze al))))),?_⟩
  have hc:mY 10 18:=⟨ξ,ξ,ξ⟩;have a:(10:Int) ^ (18:Int).toNat=1000000000000000000:=ξ
  refine⟨_,rfl,_,_,rfl,rfl,hc,_,_,rfl,rfl,_,rfl,?_⟩;refine bc (fun h1=>?_) (fun h1=>?_)
  ·refine⟨_,rfl,_,_,rfl,rfl,hc,_,_,rfl,rfl,zf (by simp),fun p hp=>k p _ 0 hp ⟨?_,.inl rfl⟩⟩
   have:=of_decide_eq_true h1;omega
  ·refine⟨_,rfl,_,_,rfl,rfl,hc,_,_,rfl,rfl,(by show(0:Int)<10 ^ (18:Int).toNat;rw[a];decide),_,_,rfl,rfl,.inr ⟨ξ,ξ⟩,_,_,rfl,rfl,_,_,rfl,rfl,(by show(0:Int)<2147483629;decide),zf (by simp),fun p hp=>k p _ 1 hp ⟨?_,.inr ⟨rfl,?_⟩⟩⟩
   ·exact Int.emod_nonneg _ ξ
   ·have:=Int.emod_lt_of_pos (n%10 ^ (18:Int).toNat*69621+7001) (show(0:Int)<2147483629 from ξ)
    omega
def kg:Sp:=fun vs H Q _=>∃p m,vs=[.ref p,.int m]/\zK H p/\0<m/\m<18446744073709551616/\∀r H',0<=r->r<m->zx p H H'->zK H' p->Q (.int r) H'
def Cm:zn ["box","most","found","mixed"] ["box","most"] (zb kf):=⟨rfl,rfl,rfl,δ,rfl,δ,δ⟩
def oI{f:Addr}{fd:FuncData}(F:Fun K "_law_take" "_law_take" kf f fd):FnOk P w K mg base aw 1 f fd ["box","most"] kg:=by
 refine F.ok Cm (fun vs H Q E h=>?_) (fun cdv A outer s H vs Q E hr h=>?_)
 ·obtain⟨p,m,rfl,_⟩:=h;rfl
 ·obtain⟨p,m,rfl,⟨x,y,hp,d,g⟩,a,hm,k⟩:=h
  refine⟨_,za (zN (zo c_ (zI zC (pv 0) ze (fun _ _=>rfl)) ze (aq _))
    (za (zp (i:=2) Cm.nd rfl (Or.inl rfl) (zD gb (zI zC (pv 0) ze (fun _ _=>rfl)) (pv 1)))
    (za (qh (zD FE (zI zC (pv 0) ze (fun _ _=>rfl)) (pv 1)) (Di (pv 0) ze set_list))
    (zd (zr (pv 2))))) zv)
   (za (zp (i:=3) Cm.nd rfl (Or.inl rfl) (zD gb (zD dY (zD dY (zD f_ (zI zC (pv 0) ze (fun _ _=>rfl)) (zI zC (pv 0) ze (fun _ _=>rfl))) (zD f_ ze (zI zC (pv 0) ze (fun _ _=>rfl)))) ze) ze))
   (za (qh (zD gb (zD dY (zD dY (zD f_ (pv 3) (pv 3)) (zD f_ ze (pv 3))) ze) ze) (Di (pv 0) ze set_list))
   (zd (zr (zD gb (zD FE (zI zC (pv 0) ze (fun _ _=>rfl)) ze) (pv 1)))))),?_⟩
  have c:atI ([.int x,.int y]:List V) 0=some (.int x):=zu (j:=0) rfl;have D:atI ([.int x,.int y]:List V) 1=some (.int y):=zu (j:=1) rfl;refine⟨_,rfl,p,_,_,_,rfl,rfl,SqL.of hp,D,rfl,_,rfl,?_⟩;refine bc (fun h1=>?_) (fun h1=>?_)
  ·refine⟨_,rfl,p,_,_,_,rfl,rfl,SqL.of hp,c,_,rfl,_,_,rfl,rfl,a,?_⟩
   refine⟨_,rfl,p,_,_,_,rfl,rfl,SqL.of hp,c,_,rfl,_,_,rfl,rfl,⟨a,hm⟩,_,rfl,p,_,_,0,rfl,rfl,hp,rfl,?_⟩;refine⟨_,rfl,k (x%m) _ (Int.emod_nonneg _ ω) (Int.emod_lt_of_pos _ a) (fun b o hb e=>by rw[zl hb];exact e) ⟨x / m,y,ai,Int.ediv_nonneg d ω,?_⟩⟩;rcases g with q|⟨q,hx⟩
   ·exact .inl q
   ·refine .inr ⟨q,Int.lt_of_le_of_lt (Int.ediv_le_self _ d) hx⟩
  ·have hy:y=1/\x<4294967296:=by
    rcases g with q|q
    ·exact absurd (by subst q;rfl) h1
    ·exact q
   obtain⟨rfl,hx⟩:=hy;have hb:CMul x x:=.inl ⟨ω,ω⟩;refine⟨_,rfl,p,_,_,_,rfl,rfl,SqL.of hp,c,_,rfl,p,_,_,_,rfl,rfl,SqL.of hp,c,_,_,rfl,rfl,hb,_,rfl,p,_,_,_,rfl,rfl,SqL.of hp,c,_,_,rfl,rfl,.inl ⟨ξ,ξ⟩,_,_,rfl,rfl,_,_,rfl,rfl,_,_,rfl,rfl,(by show(0:Int)<2147483647;decide),?_⟩;have G:=Int.emod_nonneg (x*x+39373*x+12345) (show(2147483647:Int)≠0 from ξ);have I:=Int.emod_lt_of_pos (x*x+39373*x+12345) (show(0:Int)<2147483647 from ξ);obtain⟨z,l⟩:∃z,z=(x*x+39373*x+12345)%2147483647:=⟨_,rfl⟩;rw[<-l] at G I;show mD _ _ _ ([some (.ref p),some (.int m),none,some (.int ((x*x+39373*x+12345)%2147483647))]:St) H;rw[<-l];refine⟨_,rfl,_,rfl,_,_,rfl,rfl,.inl ⟨ω,ω⟩,_,rfl,_,_,rfl,rfl,.inl ⟨ξ,ξ⟩,_,_,rfl,rfl,_,_,rfl,rfl,_,_,rfl,rfl,(by show(0:Int)<2147483587;decide),_,rfl,p,_,_,0,rfl,rfl,hp,rfl,?_⟩;have v:=Int.emod_nonneg (z*z+16807*z+7) (show(2147483587:Int)≠0 from ξ);have g1:=Int.emod_lt_of_pos (z*z+16807*z+7) (show(0:Int)<2147483587 from ξ);obtain⟨u,r⟩:∃u,u=(z*z+16807*z+7)%2147483587:=⟨_,rfl⟩;rw[<-r] at v g1;have C:upd H p (.lst [.int ((z*z+16807*z+7)%2147483587),.int 1]) p=some (.lst [.int u,.int 1]):=by rw[r];exact ai
   refine⟨_,rfl,p,_,_,_,rfl,rfl,SqL.of C,zu (j:=0) rfl,_,_,rfl,rfl,⟨ξ,ξ⟩,_,rfl,_,_,rfl,rfl,a,?_⟩;exact k _ _ (Int.emod_nonneg _ ω) (Int.emod_lt_of_pos _ a) (fun b o hb e=>by rw[zl hb];exact e) ⟨u,1,C,v,.inr ⟨rfl,ω⟩⟩
end
end K56
end
section
namespace K56
open K1
open PySem L2 STb
abbrev oM:Stmt:=top 49
abbrev sh:Stmt:=top 50
section
variable{P:Program}{w:World}{K:Ae}{mg:Str->Option Value}{base:Heap}
def Lx{H2:Hp}{as:List Addr}{fs:Ξ}{D l:Addr}{Q:VK}(F:H2 l=some (.lst (as.map V.ref)))(w:Tps H2 as fs)(hz:as.length<=100)(y:H2 D=none)(k:∀bs b,Same H2 b->b D=some (.lst (bs.map V.ref))->Tps b bs (fs.filter fun q=>!decide (q=[]))->Q (.ref D) b):cG (dv K l) (cA 0) (hU (cb (j0 true K) (ax 0) (dq a8))) (ax 0) [none] H2 D Q:=by
 have E:=w.length;refine zG (xs:=as.map V.ref) (fun j σ ys b=>∃bs v,σ=[v]/\Same H2 b/\b D=some (.lst ys)/\ys=bs.map V.ref/\Tps b bs ((fs.take j).filter fun q=>!decide (q=[]))) ?_ ?_ ?_ ?_
 ·exact⟨[],none,rfl,Same.new y,ai,rfl,.nil⟩
 ·rintro j σ ys b ⟨bs,v,rfl,i,d,rfl,hb⟩
  exact SqL.of (i _ _ F)
 ·rintro j σ ys b x hx p hy ⟨bs,v,rfl,i,d,rfl,hb⟩
  obtain⟨a,C,rfl⟩:=zR hx;obtain⟨f,r,hf⟩:=w.get C;refine⟨_,rfl,zf (by simp),fun t A=>?_⟩;have s:=i.tp hf;have g:Same b (upd b t (.tup [])):=Same.new A;refine .inl ⟨a,t,f,[],rfl,rfl,g.tp s,ai,_,rfl,?_⟩;have u:=i.trans g;have keep:∀(o:HO) c xs,upd b t (.tup []) c=some (.tup xs)->upd (upd b t (.tup [])) D o c=some (.tup xs):=fun o c xs e=>by
   rw[zl (a0 e (g _ _ d) (by intro z;cases z))];exact e
  by_cases h:f=[]
  ·subst h
   refine aH (cS p hy ⟨bs,_,rfl,u,g _ _ d,rfl,?_⟩);rw[AM r,AV]
   simpa using g.tps hb
  ·rw[if_pos rfl,show(!decide (f=[]))=true by simp[h]]
   refine aX ⟨_,rfl,a9 (ys:=bs.map V.ref) (by rw[Ab];exact zf ω) p hy (g _ _ d) ⟨bs++[a],_,rfl,u.then y,ai,by rw[Am];rfl,?_⟩⟩;rw[AM r,AV,show [f].filter (fun q=>!decide (q=[]))=[f] by simp[h]];exact Tps.snoc (Paired.mapP (g.tps hb) fun c xs e=>keep _ c _ e) (keep _ a _ (g.tp s))
 ·rintro σ ys b ⟨bs,v,rfl,i,d,rfl,hb⟩
  rw[Ab,E,take_all] at hb;exact k bs b i d hb
def sk:zn ["piece","found","point"] ["piece"] (zb oM):=⟨rfl,rfl,rfl,δ,rfl,δ,δ⟩
def Ly{f:Addr}{fd:FuncData}(F:Fun K "_law_parts" "_law_parts" oM f fd):FnOk P w K mg base aw 1 f fd ["piece"] rN:=by
 refine F.ok sk (fun vs H Q E h=>?_) (fun cdv A outer s H vs Q E hr h=>?_)
 ·obtain⟨a,ps,rfl,_⟩:=h;rfl
 ·obtain⟨a,ps,rfl,z,L,k⟩:=h
  have N:=hr.units;refine⟨_,za (zp (i:=1) sk.nd rfl (Or.inl rfl) (zQ (ac (fQ al) al)))
   (za (zZ AU rfl (iq (pv 0)) (zk (i:=2) sk.nd rfl (Or.inr rfl))
    (zd (zp (i:=1) sk.nd rfl (Or.inl rfl) (zD fR (pv 1) (zw ["piece","found","point"] ["part","point"] [none,some 2] (zA (pv 1)) (fun o C s₀ H₀ ex=>zk (i:=0) (bR ["part","point"]) rfl (Or.inl rfl)) (fun o C s₀ H₀ ex=>zH)
     (fun o C s₀ H₀ ex=>zD Er (pv 0) (fQ (ac (pv 1) al))) (hfr:=bO (zb oM) δ))))))
   (zd (zr (zw ["piece","found","point"] ["part"] [none] (zA (pv 1)) (fun o C s₀ H₀ ex=>zk (i:=0) (bR ["part"]) rfl (Or.inl rfl)) (fun o C s₀ H₀ ex=>gh (zo (JX N) (pv 0) (fQ al) (aq _)))
     (fun o C s₀ H₀ ex=>pv 0) (hfr:=bN δ) (tc:=hU (cb (j0 true K) (ax 0) (dq a8))))))),?_⟩
  refine⟨zf (by simp),fun e he=>⟨zf (by simp),fun l b=>?_⟩⟩;have G:Same H (upd (upd H e (.tup [])) l (.lst [.ref e])):=(Same.new he).then ((Same.new he).free b);have O:e≠l:=zg (H:=upd H e (.tup [])) ai b;refine⟨_,rfl,a,rfl,⟨_,SqT.of (G _ _ z)⟩,Dj (K:=K) (a:=a) (xs:=ps.map V.int) (fun i σ H2=>∃l as v,σ=[some (.ref a),some (.ref l),v]/\Same H H2/\H l=none/\H2 l=some (.lst (as.map V.ref))/\Tps H2 as (subs (ps.take i)))
   ⟨l,[e],none,rfl,G,(Same.new he).free b,ai,.cons (by show upd _ _ _ e=_;rw[zl O];exact ai) .nil⟩ (fun i σ H2 _ ⟨_,_,_,_,c,_⟩=>SqT.of (c _ _ z)) ?_ ?_⟩
  ·rintro i x σ H2 hx ⟨l,as,v,rfl,c,M,b,g⟩
   obtain⟨q,eq,rfl⟩:=ii hx;have hi:i<ps.length:=(List.getElem?_eq_some_iff.mp eq).1;have u:=g.length;have T:as.length<=32:=by
    rw[u,rF,AG];exact fo ω
   have hm:∀f∈subs (ps.take i),f.length<=100:=fun f hf=>by
    have:=E1 _ f hf;rw[AG] at this;omega
   refine⟨_,rfl,_,rfl,l,rfl,⟨_,SqL.of b⟩,fun D r=>zy (E' b g ω hm r fun bs J j d hb=>?_)⟩;have S:=hb.length;rw[Ab] at S;refine⟨l,D,_,_,rfl,rfl,j _ _ b,d,by rw[Ab,Ab];exact zf ω,fun y p=>?_⟩;have I:H y=none:=(c.trans j).free p;refine⟨y,as++bs,_,rfl,(c.trans j).then I,I,by rw[ai,Am],?_⟩;rw[AM eq,BJ];exact(Same.new p).tps ((j.tps g).append hb)
  ·rintro σ H2 ⟨l,as,v,rfl,c,M,b,g⟩
   rw[Ab,take_all] at g;have u:=g.length;refine⟨_,rfl,l,rfl,⟨_,SqL.of b⟩,fun D r=>zy (Lx b g (by rw[u,rF];have:=fo L;omega) r fun bs J j d hb=>?_)⟩;rw[Ku] at hb;exact k D bs J (c.trans j) (c.free r) d hb
def Lz{H2:Hp}{bs:List Addr}{fs:Ξ}{D l:Addr}{Q:VK}(G:H2 l=some (.lst (bs.map V.ref)))(u:Tps H2 bs fs)(hz:bs.length<=1000)(w:H2 D=none)(k:∀(cs:List Addr) a,Same H2 a->a D=some (.lst (cs.map V.ref))->cs.length=bs.length->(∀(i:Nat) c,cs[i]?=some c->∃b f,bs[i]?=some b/\fs[i]?=some f/\a c=some (.tup [.int f.length,.ref b]))->Q (.ref D) a):cG (dv K l) (cA 0) ci (dq (zJ (eQ (fun xs H Q=>∃p ys,xs=[V.ref p]/\(SqL K H p ys\/SqT K H p ys)/\Q (.int ys.length) H) (zJ (ax 0) a8)) (zJ (ax 0) a8))) [none] H2 D Q:=by
 have I:=u.length;refine zG (xs:=bs.map V.ref) (fun j σ ys a=>∃(cs:List Addr)(v:Option V),σ=[v]/\Same H2 a/\a D=some (.lst ys)/\ys=cs.map V.ref/\cs.length=j/\∀(i:Nat) c,cs[i]?=some c->∃b f,bs[i]?=some b/\fs[i]?=some f/\a c=some (.tup [.int f.length,.ref b])) ?_ ?_ ?_ ?_
 ·exact⟨[],none,rfl,Same.new w,ai,rfl,rfl,fun i c e=>by simp at e⟩
 ·rintro j σ ys a ⟨cs,v,rfl,h,d,rfl,r,hc⟩
  exact SqL.of (h _ _ G)
 ·rintro j σ ys a x hx r hy ⟨cs,v,rfl,h,d,rfl,g,hc⟩
  obtain⟨b,s,rfl⟩:=zR hx;obtain⟨f,A,hf⟩:=u.get s;refine cJ ?_;refine⟨_,rfl,b,_,rfl,.inr (SqT.of (h.tp hf)),_,rfl,zf (by simp),fun t y=>?_⟩;rw[show(f.map V.int).length=f.length from Ab _];have q:Same a (upd a t (.tup [.int f.length,.ref b])):=Same.new y;have keep:∀(o:HO) c xs,upd a t (.tup [.int f.length,.ref b]) c=some (.tup xs)->upd (upd a t (.tup [.int f.length,.ref b])) D o c=some (.tup xs):=fun o c xs e=>by
   rw[zl (a0 e (q _ _ d) (by intro z;cases z))];exact e
  refine a9 (ys:=cs.map V.ref) (by rw[Ab];exact zf ω) r hy (q _ _ d) ⟨cs++[t],_,rfl,(h.trans q).then w,ai,by rw[Am];rfl,by rw[As,g];rfl,fun i c e=>?_⟩
  by_cases hi:i<cs.length
  ·rw[List.getElem?_append_left hi] at e
   obtain⟨C,E,e1,e2,e3⟩:=hc i c e;exact⟨C,E,e1,e2,keep _ c _ (q _ _ e3)⟩
  ·rw[List.getElem?_append_right ω] at e
   have F:i-cs.length=0:=by
    rcases Nat.eq_zero_or_pos (i-cs.length) with z|z
    ·exact z
    ·rw[List.getElem?_eq_none (by simp only[Au,List.length_nil];omega)] at e;cases e
   rw[F] at e;obtain rfl:t=c:=by simpa using e
   have:i=j:=ω
   subst this;exact⟨b,f,s,A,keep _ t _ ai⟩
 ·rintro σ ys a ⟨cs,v,rfl,h,d,rfl,g,hc⟩
  rw[Ab] at g;exact k cs a h d g hc
def jv(H:Hp)(c:Addr):Addr:=match H c with
 |some (.tup [_,.ref b])=>b
 |_=>0
def LC{H2:Hp}{cs:List Addr}{D l:Addr}{Q:VK}(o:H2 l=some (.lst (cs.map V.ref)))(p:∀c∈cs,∃n b,H2 c=some (.tup [.int n,.ref b]))(hz:cs.length<=1000)(h:H2 D=none)(k:∀d,Same H2 d->d D=some (.lst (cs.map fun c=>V.ref (jv H2 c)))->Q (.ref D) d):cG (dv K l) (cA 0) ci (cb (dD K) (ax 0) (tC (.int 1))) [none] H2 D Q:=by
 refine zG (xs:=cs.map V.ref) (fun j σ ys d=>∃v,σ=[v]/\Same H2 d/\d D=some (.lst ys)/\ys=(cs.take j).map fun c=>V.ref (jv H2 c)) ?_ ?_ ?_ ?_
 ·exact⟨none,rfl,Same.new h,ai,rfl⟩
 ·rintro j σ ys d ⟨v,rfl,f,a,rfl⟩
  exact SqL.of (f _ _ o)
 ·rintro j σ ys d x hx i hy ⟨v,rfl,f,a,rfl⟩
  obtain⟨c,g,rfl⟩:=zR hx;obtain⟨n,b,e⟩:=p c (Ap g);refine cJ ?_;refine⟨_,rfl,c,_,_,_,rfl,rfl,SqT.of (f _ _ e),zu (j:=1) rfl,a9 (by rw[Ab];exact zf ω) i hy a ⟨_,rfl,f.then h,ai,?_⟩⟩;rw[AM g,Am];have:jv H2 c=b:=by unfold jv;rw[e]
  rw[<-this];rfl
 ·rintro σ ys d ⟨v,rfl,f,a,rfl⟩
  rw[Ab,take_all] at a;exact k d f a
def oT:zn ["web","found","piece","part","ranked"] ["web"] (zb sh):=⟨rfl,rfl,rfl,δ,rfl,δ,δ⟩
def LD{f fp:Addr}{fd cB:FuncData}(F:Fun K "_law_pieces" "_law_pieces" sh f fd)(B:Bt mg)(Fp:Fun K "_law_parts" "_law_parts" oM fp cB)(bp:Binds K cB ["piece"] [])(mp:mg "_law_parts"=some (.ref fp)):FnOk P w K mg base aw 2 f fd ["web"] (lj K):=by
 have Gp:FnOk P w K mg base aw 1 fp cB ["piece"] rN:=Ly Fp;refine F.ok oT (fun vs H Q E h=>?_) (fun cdv A outer s H vs Q E hr h=>?_)
 ·obtain⟨l,as,pss,rfl,_⟩:=h;rfl
 ·obtain⟨l,as,pss,rfl,hl,ht,h5,cg,h64,k⟩:=h
  have hu:=dr hr;have av:=hr.units;refine⟨_,za (zp (i:=1) oT.nd rfl (Or.inl rfl) jV)
   (za (zZ AU rfl (zA (pv 0)) (zk (i:=2) oT.nd rfl (Or.inl rfl))
    (zd (zZ AU rfl (zA (zq Gp hr rfl mp Fp.kp bp .nil am (ac (pv 2) al))) (zk (i:=3) oT.nd rfl (Or.inl rfl))
     (zd (hV hu (pv 1) (pv 3) dc rfl)))))
   (za (zp (i:=4) oT.nd rfl (Or.inl rfl) (zh (J2 av) rfl B.sorted gD (ac
    (zw ["web","found","piece","part","ranked"] ["piece"] [none] (zA (zj (En rfl) rfl B.list eY (ac (pv 1) al))) (fun L C s₀ H₀ ex=>zk (i:=0) (bR ["piece"]) rfl (Or.inl rfl)) (fun L C s₀ H₀ ex=>zH)
     (fun L C s₀ H₀ ex=>fQ (ac (zh zi rfl B.len zM (ac (pv 0) al)) (ac (pv 0) al))) (hfr:=bN δ) (te:=dq (zJ (eQ (fun xs H Q=>∃p ys,xs=[V.ref p]/\(SqL K H p ys\/SqT K H p ys)/\Q (.int ys.length) H) (zJ (ax 0) a8)) (zJ (ax 0) a8)))) al)))
   (zd (zr (zw ["web","found","piece","part","ranked"] ["one"] [none] (zA (pv 4)) (fun L C s₀ H₀ ex=>zk (i:=0) (bR ["one"]) rfl (Or.inl rfl)) (fun L C s₀ H₀ ex=>zH)
     (fun L C s₀ H₀ ex=>zI eR (pv 0) ze (fun _ _=>rfl)) (hfr:=bN δ) (te:=cb (dD K) (ax 0) (tC (.int 1)))))))),?_⟩
  intro d hd;have aF:=ht.length;refine⟨_,rfl,l,rfl,⟨_,(Same.new hd).seq hl⟩,fG (K:=K) (a:=l) (xs:=as.map V.ref) (fun i σ H2=>∃v I u,σ=[some (.ref l),some (.ref d),v,I,u]/\Same H H2/\H2 d=some (.dT (fu ((pss.take i).flatMap parts))))
   ⟨none,none,none,rfl,Same.new hd,ai⟩ (fun i σ H2 _ ⟨_,_,_,_,r,_⟩=>r.seq hl) ?_ ?_⟩
  ·rintro i x σ H2 hx ⟨v,I,u,rfl,r,N⟩
   obtain⟨a,ea,rfl⟩:=zR hx;obtain⟨ps,aA,aM⟩:=ht.get ea;have dk:=h5 ps (Ap aA);have hi:i<pss.length:=(List.getElem?_eq_some_iff.mp aA).1;refine⟨_,rfl,a,ps,rfl,r.tp aM,dk,fun D cs o G dC M fO=>⟨D,rfl,⟨_,SqL.of M⟩,?_⟩⟩;have n_:=fO.length;have oC:D≠d:=a0 M (G _ _ N) (by intro z;cases z);refine fG (K:=K) (a:=D) (xs:=cs.map V.ref) (fun j σ J=>∃I,σ=[some (.ref l),some (.ref d),some (.ref a),I,u]/\Same H J/\J D=some (.lst (cs.map V.ref))/\Tps J cs (parts ps)/\J d=some (.dT (fu ((pss.take i).flatMap parts++(parts ps).take j))))
    ⟨_,rfl,r.trans G,M,fO,by rw[List.take_zero,List.append_nil];exact G _ _ N⟩ (fun j σ J _ ⟨_,_,_,q,_⟩=>SqL.of q) ?_ ?_
   ·rintro j x σ J hx ⟨I,rfl,cf,a7,cX,O⟩
    obtain⟨c,ec,rfl⟩:=zR hx;obtain⟨f,ef,hf⟩:=cX.get ec;have S:(fu ((pss.take i).flatMap parts++(parts ps).take j)).length<sizeLine:=by
     refine e_ (AO (Fc _) ?_);rw[As];have h1:=B2 (pss.take i) (fun q hq=>h5 q (List.mem_of_mem_take hq));have h2:=lf ps;have h3:=fo dk;rw[AG] at h1 ⊢;omega
    refine⟨_,rfl,_,rfl,d,_,rfl,DPut.t (k:=f.map Sum.inl) O (by rw[At];exact hf) S,⟨_,rfl,cf.then hd,?_,?_,?_⟩⟩
    ·rw[zl oC];exact a7
    ·exact Tps.upd cX O (by intro xs z;cases z)
    ·rw[ai,Fd,List.append_assoc,<-AM ef]
   ·rintro σ J ⟨I,rfl,cf,a7,cX,O⟩
    refine⟨_,_,_,rfl,cf,?_⟩;rw[Ab,n_,take_all] at O;rw[Ff aA];exact O
  ·rintro σ H2 ⟨v,I,u,rfl,r,N⟩
   rw[Ab,aF,take_all] at N;refine⟨_,rfl,d,_,rfl,N,fun bs hb l2 X=>?_⟩;have tb:=Fe hb;have jc:=tb.length;have c5:(dd (pss.flatMap parts)).length<=620:=by
    have h1:=fj (pss.flatMap parts);have h2:=B2 pss h5;omega
   have W:Same H2 (upd H2 l2 (.lst (bs.map V.ref))):=Same.new X;refine⟨l2,rfl,⟨_,SqL.of ai⟩,fun D M=>zy (Lz (K:=K) ai (W.tps tb) ω M fun cs o G Y hcl hc=>?_)⟩;have jk:=G.tps (W.tps tb);refine⟨D,cs,(dd (pss.flatMap parts)).map fun f=>((f.length:Int)::f),rfl,SqL.of Y,?_,(by rw[Ab];exact h64),fun R g hp hs hR=>?_⟩
   ·refine Paired.of_at (by rw[Ab];omega) fun i c y e1 e2=>?_
    obtain⟨b,f,g1,g2,g3⟩:=hc i c e1;rw[Ai,g2] at e2;obtain rfl:=An e2;exact⟨_,b,f,rfl,g3,rm jk i b f g1 g2⟩
   ·have T:Same o (upd o R (.lst (g.map fun q=>V.ref q.2))):=Same.new hR
    have hq:∀q∈g,∃b f,q.1=((f:List Int).length:Int)::f/\o q.2=some (.tup [.int f.length,.ref b])/\Tp o b f:=fun q hq=>by
     obtain⟨m,em⟩:=List.mem_iff_getElem?.mp (hp.mem_iff.mp hq);rw[bg.bC,Ai] at em;cases e2:cs[m]? with
     |none=>rw[e2] at em;cases h:(dd (pss.flatMap parts))[m]?<;>rw[h] at em<;>cases em
     |some c=>
      obtain⟨b,f,g1,g2,g3⟩:=hc m c e2;rw[g2,e2] at em;obtain rfl:(((f.length:Int)::f),c)=q:=An em;exact⟨b,f,rfl,g3,rm jk m b f g1 g2⟩
    have hql:g.length<=620:=by rw[hp.length_eq,List.length_zip,Ab];omega
    refine⟨_,rfl,R,rfl,⟨_,SqL.of ai⟩,fun D2 aE=>zy (LC (K:=K) (cs:=g.map (·.2)) (by rw[ai,At];rfl) (fun c wn=>?_) (by rw[Ab];omega) aE fun H5 dP cH=>?_)⟩
    ·obtain⟨q,Z,rfl⟩:=List.mem_map.mp wn
     obtain⟨b,f,_,g2,_⟩:=hq q Z;exact⟨_,b,T _ _ g2⟩
    ·have sAll:Same H H5:=((r.trans W).trans G).trans (T.trans dP)
     have snd:∀q∈g,∀b f,o q.2=some (.tup [.int (f:List Int).length,.ref b])->jv (upd o R (.lst (g.map fun q=>V.ref q.2))) q.2=b:=fun q _ b f e=>by
      unfold jv;rw[T _ _ e]
     refine k D2 H5 (g.map fun q=>(q.1.tail,jv (upd o R (.lst (g.map fun q=>V.ref q.2))) q.2)) ⟨sAll,(((r.trans W).trans G).trans T).free aE,?_,fun q Z=>?_,?_,?_⟩
     ·rw[cH,At,At];rfl
     ·obtain⟨U,h0,rfl⟩:=List.mem_map.mp Z
      obtain⟨b,f,g1,g2,g3⟩:=hq U h0;show Tp H5 (jv _ U.2) U.1.tail;rw[snd U h0 b f g2,g1];exact dP.tp (T.tp g3)
     ·rw[At]
      have h1:=hp.map (fun q:List Int×Addr=>q.1.tail);have e:((((dd (pss.flatMap parts)).map fun f=>((f.length:Int)::f)).zip cs).map fun q:List Int×Addr=>q.1.tail)=dd (pss.flatMap parts):=by
       rw[show(fun q:List Int×Addr=>q.1.tail)=(fun l:List Int=>l.tail) ∘ Prod.fst from rfl,<-At,List.map_fst_zip (by rw[Ab];omega),At];exact List.map_id' _
      rw[e] at h1;exact h1
     ·rw[Bf]
      refine hs.imp_of_mem fun{p q} h1 h2 h3=>?_;obtain⟨_,f,g1,_⟩:=hq p h1;obtain⟨_,f',pY,_⟩:=hq q h2;rw[g1,pY] at h3;rw[g1,pY];exact h3
end
end K56
end
section
namespace K56
open K1
open PySem L2 STb
abbrev so:Stmt:=top 51
abbrev oW:Stmt:=top 52
def texts:List Str:=(["","0","01 12 02","012 013 023 123","01 02 03","012 023 034 014","0123","01 23 45","012 34"]:List Str)++(["012 123 234 034 014","01 12 23 03 13","012 013 014","0 1 2 3"]:List Str)++(["01 12 02 34 45 35","023 234 1"]:List Str)
++(["014 015 023 025 034 123 124 135 245 345","012 013 024 034 125 135 245 345"]:List Str)++(["01234","0123 0124 0134 0234 1234"]:List Str)++(["013 123 234 024 014 145 125 025 056 016 126 267 027 037 345 356 367"]:List Str)
def wordsOf(n:Nat):List Str:=Txt.split (texts.getD n "") " "
def digits(x:Str):List Int:=x.cps.toList.map fun(c:Nat)=>((c:Int)-48)
def known(n:Nat):Ξ:=((wordsOf n).filter fun(x:Str)=>!decide (x="")).map digits
def LF:∀n,n<20->(texts.getD n "").length+2<=1000/\(wordsOf n).length<=20/\∀x∈wordsOf n,x.cps.size<=5/\∀c∈x.cps.toList,48<=c/\c<=57:=δ
def LG:∀c,48<=c->c<=57->intText? ⟨#[c]⟩=some ((c:Int)-48):=by
 intro c h1 h2;have:∀c,c<58->48<=c->intText? ⟨#[c]⟩=some ((c:Int)-48):=δ
 exact this c ω h1
section
variable{P:Program}{w:World}{K:Ae}{mg:Str->Option Value}{base:Heap}
def FI:Sp:=fun vs H Q _=>∃n:Nat,vs=[.int n]/\n<20/\∀D as H',Same H H'->H D=none->H' D=some (.lst (as.map V.ref))->Tps H' as (known n)->Q (.ref D) H'
def jy:zn ["number","some","web","word"] ["number"] (zb so):=⟨rfl,rfl,rfl,δ,rfl,δ,δ⟩
def LH{H2:Hp}{x:Str}{D:Addr}{Q:VK}(hx:x.cps.size<=5)(hc:∀c∈x.cps.toList,48<=c/\c<=57)(g:H2 D=none)(k:∀b,Same H2 b->b D=some (.lst ((digits x).map V.int))->Q (.ref D) b):cG (rz x) (cA 0) ci (eQ (fun xs H Q=>∃x n,xs=[.str x]/\intText? x=some n/\x.length<=640/\Q (.int n) H) (zJ (ax 0) a8)) [none] H2 D Q:=by
 refine Kt (fun j σ ys b=>∃v,σ=[v]/\Same H2 b/\b D=some (.lst ys)/\ys=((digits x).take j).map V.int) ?_ ?_ ?_
 ·exact⟨none,rfl,Same.new g,ai,rfl⟩
 ·rintro j σ ys b c h i hy ⟨v,rfl,f,a,rfl⟩
  have d:x.cps.toList[j]?=some c:=by simpa using h
  obtain⟨l,o⟩:=hc c (Ap d);refine cJ ?_;refine⟨_,rfl,⟨#[c]⟩,_,rfl,LG c l o,by show 1<=640;decide,a9 (zf ω) i hy a ⟨_,rfl,f.then g,ai,?_⟩⟩;have e:(digits x)[j]?=some ((c:Int)-48):=by unfold digits;rw[Ai,d];rfl
  rw[AM e,Am];rfl
 ·rintro σ ys b ⟨v,rfl,f,a,rfl⟩
  rw[Az (by unfold digits;simp)] at a;exact k b f a
def LI{f:Addr}{fd:FuncData}(F:Fun K "_law_known" "_law_known" so f fd)(B:Bt mg):FnOk P w K mg base aw 1 f fd ["number"] FI:=by
 refine F.ok jy (fun vs H Q E h=>?_) (fun cdv A outer s H vs Q E hr h=>?_)
 ·obtain⟨n,rfl,_⟩:=h;rfl
 ·obtain⟨n,rfl,hn,k⟩:=h
  refine⟨_,za (zp (i:=1) jy.nd rfl (Or.inl rfl) (zQ (ac pe_str (ac pe_str (ac pe_str (ac pe_str (ac pe_str (ac pe_str (ac pe_str (ac pe_str (ac pe_str al)))))))))))
   (za (zp (i:=1) jy.nd rfl (Or.inl rfl) (zD fR (pv 1) (zQ (ac pe_str (ac pe_str (ac pe_str (ac pe_str al)))))))
   (za (zp (i:=1) jy.nd rfl (Or.inl rfl) (zD fR (pv 1) (zQ (ac pe_str (ac pe_str al)))))
   (za (zp (i:=1) jy.nd rfl (Or.inl rfl) (zD fR (pv 1) (zQ (ac pe_str (ac pe_str al)))))
   (za (zp (i:=1) jy.nd rfl (Or.inl rfl) (zD fR (pv 1) (zQ (ac pe_str (ac pe_str al)))))
   (za (fE (iE PySem.F.plainAttrs_list PySem.F.slot_list_append PySem.F.type_list_append qX (pv 1) (ac pe_str al)))
   (za (zp (i:=2) jy.nd rfl (Or.inl rfl) (zQ al))
   (za (zZ AU rfl (zA (iE PySem.F.plainAttrs_str PySem.F.slot_str_split PySem.F.type_str_split Kr (zI zC (pv 1) (zD gb (pv 0) ze) (fun _ _=>rfl)) (ac pe_str al))) (zk (i:=3) jy.nd rfl (Or.inl rfl))
    (zd (zN (zo jQ (pv 3) pe_str (aq _))
     (zd (fE (iE PySem.F.plainAttrs_list PySem.F.slot_list_append PySem.F.type_list_append qX (pv 2) (ac (zj zE rfl B.tuple gG (ac
      (zw ["number","some","web","word"] ["sign"] [none] (Ks (pv 3)) (fun J C s₀ H₀ ex=>zk (i:=0) (bR ["sign"]) rfl (Or.inl rfl)) (fun J C s₀ H₀ ex=>zH)
       (fun J C s₀ H₀ ex=>zj JZ rfl B.int E8 (ac (pv 0) al)) (hfr:=bN δ)) al)) al)))) zv)))
   (zd (zr (pv 2)))))))))),?_⟩
  have t20:texts.length=20:=rfl;have eJ:atI (texts.map V.str) ((n:Int)%20)=some (.str (texts.getD n "")):=by
   rw[show(n:Int)%20=(n:Int) from ω];refine zu ?_;have e:texts[n]?=some texts[n]:=Af ω;rw[Ai,AR,e];rfl
  obtain⟨g1,g2,g3⟩:=LF n hn;refine⟨zf (by simp),fun Y h1=>?_⟩;have s1:=Same.new (H:=H) (o:=.lst [.str "",.str "0",.str "01 12 02",.str "012 013 023 123",.str "01 02 03",.str "012 023 034 014",.str "0123",.str "01 23 45",.str "012 34"]) h1;refine⟨_,rfl,zf (by simp),fun Z L=>⟨Y,Z,_,_,rfl,rfl,Same.new L _ _ ai,ai,zf (by simp),fun l2 h2=>?_⟩⟩;have s2:=(s1.trans (Same.new L)).trans (Same.new (o:=.lst ((texts.take 13).map V.str)) h2);refine⟨_,rfl,zf (by simp),fun m2 M=>⟨l2,m2,_,_,rfl,rfl,Same.new M _ _ ai,ai,zf (by simp),fun l3 h3=>?_⟩⟩;have s3:=(s2.trans (Same.new M)).trans (Same.new (o:=.lst ((texts.take 15).map V.str)) h3);refine⟨_,rfl,zf (by simp),fun m3 N=>⟨l3,m3,_,_,rfl,rfl,Same.new N _ _ ai,ai,zf (by simp),fun l4 h4=>?_⟩⟩;have T:=(s3.trans (Same.new N)).trans (Same.new (o:=.lst ((texts.take 17).map V.str)) h4);refine⟨_,rfl,zf (by simp),fun m4 r=>⟨l4,m4,_,_,rfl,rfl,Same.new r _ _ ai,ai,zf (by simp),fun c O=>?_⟩⟩;have s5:=(T.trans (Same.new r)).trans (Same.new (o:=.lst ((texts.take 19).map V.str)) O);have wM:H c=none:=(T.trans (Same.new r)).free O;refine⟨_,rfl,.inl ⟨rfl,_,SqL.of ai⟩,c,_,_,rfl,rfl,ai,e_ (by simp),zf (by simp),fun b u=>?_⟩;generalize hH6:upd (upd _ c _) c _=H6 at u;have e6:H6 c=some (.lst (texts.map V.str)):=by rw[<-hH6,ai];rfl
  have U:Same H H6:=by
   rw[<-hH6];exact s5.then wM
  have d:H b=none:=U.free u;have W:Same H (upd H6 b (.lst [])):=U.then d;have e7:upd H6 b (.lst []) c=some (.lst (texts.map V.str)):=Same.new u _ _ e6;refine⟨_,rfl,_,rfl,_,_,rfl,rfl,(by show(0:Int)<20;decide),c,_,_,_,rfl,rfl,SqL.of e7,eJ,rfl,_,_,rfl,rfl,ξ,zf ω,zf (show(wordsOf n).length<=100000 from ω),fun D S=>⟨D,rfl,⟨_,SqL.of ai⟩,?_⟩⟩;have X:b≠D:=zg (H:=upd H6 b (.lst [])) ai S;have dC:H D=none:=W.free S;refine fG (K:=K) (a:=D) (xs:=(wordsOf n).map V.str) (fun i σ H2=>∃as v,σ=[some (.int n),some (.ref c),some (.ref b),v]/\Same H H2/\H2 D=some (.lst ((wordsOf n).map V.str))/\H2 b=some (.lst (as.map V.ref))/\Tps H2 as ((((wordsOf n).take i).filter fun(x:Str)=>!decide (x="")).map digits))
   ⟨[],none,rfl,W.then dC,ai,by rw[zl X];exact ai,.nil⟩ (fun i σ H2 _ ⟨_,_,_,_,q,_⟩=>SqL.of q) ?_ ?_
  ·rintro i x σ H2 hx ⟨as,v,rfl,p,I,g,j⟩
   rw[Ai] at hx;cases ex:(wordsOf n)[i]? with
   |none=>rw[ex] at hx;cases hx
   |some y=>
    rw[ex] at hx;obtain rfl:=An hx;have hi:i<(wordsOf n).length:=(List.getElem?_eq_some_iff.mp ex).1;obtain⟨y5,yc⟩:=g3 y (Ap ex);refine⟨_,rfl,rfl,_,rfl,?_⟩
    by_cases hy:y=""
    ·subst hy
     refine aH ⟨as,_,rfl,p,I,g,?_⟩;rw[AM ex,AV,Am]
     simpa using j
    ·rw[show(!decide (V.str y=V.str ""))=true from by simp[hy]]
     refine aX ⟨_,rfl,.inl ⟨rfl,_,SqL.of g⟩,_,rfl,y,rfl,fun D2 xU=>zy (LH y5 yc xU fun H3 aI G=>⟨D2,_,rfl,.inl ⟨SqL.of G,fun t dN=>?_⟩⟩)⟩;have l:Same H2 (upd H3 t (.tup ((digits y).map V.int))):=aI.trans (Same.new dN);have aF:=j.length;have iu:as.length<=20:=by
      rw[aF,Ab];exact AO (List.length_filter_le _ _) (by rw[AG];omega)
     refine⟨b,_,_,rfl,rfl,l _ _ g,e_ (by rw[Ab];omega),⟨as++[t],_,rfl,(p.trans l).then d,?_,by rw[ai,Am];rfl,?_⟩⟩
     ·rw[zl X.symm];exact l _ _ I
     ·rw[AM ex,AV,Am,show [y].filter (fun(x:Str)=>!decide (x=""))=[y] by simp[hy]]
      exact Tps.upd (Tps.snoc (l.tps j) ai) (l _ _ g) (by intro xs z;cases z)
  ·rintro σ H2 ⟨as,v,rfl,p,I,g,j⟩
   rw[Ab,take_all] at j;exact⟨_,rfl,k b as H2 p d g j⟩
def cx(first a:Int)(ps:List Int):List Int:=ps.map fun x=>first+a*x
def FJ:Sp:=fun vs H Q _=>∃p l as pss,vs=[.ref p,.ref l]/\zK H p/\H l=some (.lst (as.map V.ref))/\Tps H as pss/\pss.length<=20/\(∀ps∈pss,ps.length<=10)/\
 ∀D bs af first a H',zx p H H'->zK H' p->H D=none->H' D=some (.lst (bs.map V.ref))->Tps H' bs af->0<=first->first<12->1<=a->a<=3->af.Perm (pss.map (cx first a))->Q (.ref D) H'
def oY:zn ["box","web","gap","first","found","piece"] ["box","web"] (zb oW):=⟨rfl,rfl,rfl,δ,rfl,δ,δ⟩
def LJ{H2:Hp}{a D:Addr}{ps:List Int}{first d:Int}{Q:VK}(l:Tp H2 a ps)(hz:ps.length<=10)(o:1<=d/\d<=3)(g:H2 D=none)(k:∀c,Same H2 c->c D=some (.lst ((cx first d ps).map V.int))->Q (.ref D) c):cG (jf K a) (cA 0) ci (cb (fL fun i j=>.int (i+j)) (ax 1) (cb (rI CMul fun i j=>.int (i*j)) (ax 2) (ax 0))) [none,some (.int first),some (.int d)] H2 D Q:=by
 refine El (xs:=ps.map V.int) (fun j σ ys c=>∃v,σ=[v,some (.int first),some (.int d)]/\Same H2 c/\c D=some (.lst ys)/\ys=((cx first d ps).take j).map V.int) ?_ ?_ ?_ ?_
 ·exact⟨none,rfl,Same.new g,ai,rfl⟩
 ·rintro j σ ys c ⟨v,rfl,f,b,rfl⟩
  exact SqT.of (f.tp l)
 ·rintro j σ ys c x hx h hy ⟨v,rfl,f,b,rfl⟩
  obtain⟨q,eq,rfl⟩:=ii hx;refine cJ ?_;refine⟨_,rfl,_,rfl,_,rfl,_,_,rfl,rfl,.inl ⟨ω,ω⟩,_,_,rfl,rfl,a9 (by rw[Ab];exact zf ω) h hy b ⟨_,rfl,f.then g,ai,?_⟩⟩;have e:(cx first d ps)[j]?=some (first+d*q):=by unfold cx;rw[Ai,eq];rfl
  rw[AM e,Am];rfl
 ·rintro σ ys c ⟨v,rfl,f,b,rfl⟩
  rw[Az (by unfold cx;simp)] at b;exact k c f b
def LK{f M:Addr}{fd N:FuncData}(F:Fun K "_law_named" "_law_named" oW f fd)(B:Bt mg)(Ft:Fun K "_law_take" "_law_take" kf M N)(O:Binds K N ["box","most"] [])(mt:mg "_law_take"=some (.ref M)):FnOk P w K mg base aw 2 f fd ["box","web"] FJ:=by
 have S:FnOk P w K mg base aw 1 M N ["box","most"] kg:=oI Ft;refine F.ok oY (fun vs H Q E h=>?_) (fun cdv A outer s H vs Q E hr h=>?_)
 ·obtain⟨p,l,as,pss,rfl,_⟩:=h;rfl
 ·obtain⟨p,l,as,pss,rfl,hb,I,X,cg,lE,k⟩:=h
  refine⟨_,za (zp (i:=2) oY.nd rfl (Or.inr rfl) (zD dY ze (zq S hr rfl mt Ft.kp O .nil am (ac (pv 0) (ac ze al)))))
   (za (zp (i:=3) oY.nd rfl (Or.inr rfl) (zq S hr rfl mt Ft.kp O .nil am (ac (pv 0) (ac ze al))))
   (za (zp (i:=4) oY.nd rfl (Or.inl rfl) (zQ al))
   (za (zZ AU rfl (zA (pv 1)) (zk (i:=5) oY.nd rfl (Or.inl rfl))
    (zd (fE (iE PySem.F.plainAttrs_list PySem.F.slot_list_insert PySem.F.type_list_insert JY (pv 4)
     (ac (zq S hr rfl mt Ft.kp O .nil am (ac (pv 0) (ac (zD dY (zh zi rfl B.len zM (ac (pv 4) al)) ze) al)))
     (ac (zj zE rfl B.tuple gG (ac
      (zw ["box","web","gap","first","found","piece"] ["point","first","gap"] [none,some 3,some 2] (iq (pv 5)) (fun T C s₀ H₀ ex=>zk (i:=0) (bR ["point","first","gap"]) rfl (Or.inl rfl)) (fun T C s₀ H₀ ex=>zH)
       (fun T C s₀ H₀ ex=>zD dY (pv 1) (zD f_ (pv 2) (pv 0))) (hfr:=bO (zb oW) δ)) al)) al))))))
   (zd (zr (pv 4)))))),?_⟩
  refine⟨_,rfl,p,3,rfl,hb,ξ,ξ,fun c H1 a1 a2 eD G=>⟨_,_,rfl,rfl,?_⟩⟩;refine⟨_,rfl,p,12,rfl,G,ξ,ξ,fun d H2 c1 c2 cO U=>⟨zf (by simp),fun D W=>?_⟩⟩;have L:=eD.trans cO;have u:H D=none:=L.free hb U W;have Y:l≠p:=hb.ne I;have aF:=X.length;refine⟨_,rfl,l,rfl,⟨_,SqL.of ((L.then u) _ _ Y I)⟩,fG (K:=K) (a:=l) (xs:=as.map V.ref) (fun i σ e=>∃bs af v,σ=[some (.ref p),some (.ref l),some (.int (1+c)),some (.int d),some (.ref D),v]/\zx p H e/\zK e p/\e D=some (.lst (bs.map V.ref))/\Tps e bs af/\af.Perm ((pss.take i).map (cx d (1+c))))
   ⟨[],[],none,rfl,L.then u,U.new W,ai,.nil,List.Perm.nil⟩ (fun i σ e _ ⟨_,_,_,_,sb,_⟩=>SqL.of (sb _ _ Y I)) ?_ ?_⟩
  ·rintro i x σ e hx ⟨bs,af,v,rfl,q,g,b,hq,hp⟩
   obtain⟨a,ea,rfl⟩:=zR hx;obtain⟨ps,J,aM⟩:=X.get ea;have hi:i<pss.length:=(List.getElem?_eq_some_iff.mp J).1;have jc:=hq.length;have hql:af.length=i:=by rw[hp.length_eq,Ab,AG];omega
   have j:D≠p:=g.ne b;refine⟨_,rfl,.inl ⟨rfl,_,SqL.of b⟩,_,rfl,_,rfl,D,_,rfl,.inl (SqL.of b),_,_,rfl,rfl,p,_,rfl,g,by rw[Ab];omega,by rw[Ab];omega,fun r H4 r0 vi o bG=>?_⟩;rw[Ab] at vi;have Z:Tp H4 a ps:=(q.trans o).tp hb aM;refine⟨_,rfl,a,rfl,⟨_,SqT.of Z⟩,fun D2 aE=>zy (LJ Z (lE ps (Ap J)) ⟨ω,ω⟩ aE fun H5 dP cH=>⟨D2,_,rfl,.inl ⟨SqL.of cH,fun t dN=>?_⟩⟩)⟩;have y:Same H4 (upd H5 t (.tup ((cx d (1+c) ps).map V.int))):=dP.trans (Same.new dN);have a7:=o _ _ j b;have gH:=y _ _ a7;have bz:=bG.same y;refine⟨D,_,r,_,rfl,rfl,gH,r0,by rw[Ab];omega,e_ (by rw[Ab];omega),⟨bs.take r.toNat++t::bs.drop r.toNat,af.take r.toNat++cx d (1+c) ps::af.drop r.toNat,_,rfl,((q.trans o).trans (zx.of y)).then u,bz.upd j,?_,?_,?_⟩⟩
   ·rw[ai,Am,Ax,List.map_take,List.map_drop]
   ·have tq:=y.tps (o.tps g hq)
    exact Tps.upd (Tps.append (tq.take _) (.cons ai (tq.drop _))) gH (by intro xs z;cases z)
   ·rw[AM J,Am]
    have h1:(af.take r.toNat++cx d (1+c) ps::af.drop r.toNat).Perm (cx d (1+c) ps::af):=by
     have:=List.perm_middle (a:=cx d (1+c) ps) (l₁:=af.take r.toNat) (l₂:=af.drop r.toNat)
     rwa [List.take_append_drop] at this
    exact h1.trans ((List.perm_append_singleton _ _).symm.trans (List.Perm.append_right _ hp))
  ·rintro σ e ⟨bs,af,v,rfl,q,g,b,hq,hp⟩
   rw[Ab,aF,take_all] at hp;exact⟨_,rfl,k D bs af d (1+c) e q g u b hq c1 c2 ω ω hp⟩
end
end K56
end
section
namespace K56
open K1
open PySem L2 STb
abbrev iL:Stmt:=top 53
def ij(seq:List Int):List (Key×V):=(dd seq).map fun n=>((Sum.inl n:Key),V.bl true)
def LL(seq:List Int):(ij seq).length<=seq.length:=by unfold ij;rw[Ab];exact fj seq
def LM(seq:List Int)(n:Int):putK (ij seq) (Sum.inl n) (.bl true)=ij (seq++[n]):=by
 unfold putK ij;rw[hY];have a:(((dd seq).map fun n=>((Sum.inl n:Key),V.bl true)).any fun kv=>decide (kv.1=Sum.inl n))=decide (n∈dd seq):=by
  rw[List.any_map]
  by_cases h:n∈dd seq
  ·rw[decide_eq_true h,List.any_eq_true]
   exact⟨n,h,by simp⟩
  ·rw[decide_eq_false h,List.any_eq_false]
   intro q hq;simp only[Function.comp,decide_eq_true_eq,Sum.inl.injEq];rintro rfl;exact h hq
 rw[a]
 by_cases h:n∈dd seq
 ·rw[decide_eq_true h,if_pos rfl,if_pos h,At]
  refine A7 fun q hq=>?_;simp only[Function.comp];split<;>rfl
 ·rw[decide_eq_false h,if_neg (by simp),if_neg h,Am]
  rfl
def LN(seq:List Int):((ij seq).map fun kv=>kV kv.1)=(dd seq).map V.int:=by unfold ij;rw[At];rfl
def LO{ms:List Int}(h1:ms.Pairwise (·<=·))(h2:ms.Nodup):aV ms=true:=by
 rw[BQ];intro i a b e hb;obtain⟨c,f⟩:=List.getElem?_eq_some_iff.mp e;obtain⟨d,g⟩:=List.getElem?_eq_some_iff.mp hb;have g1:=List.pairwise_iff_getElem.mp h1 i (i+1) c d ω;have g2:=List.pairwise_iff_getElem.mp h2 i (i+1) c d ω;rw[f,g] at g1 g2;omega
def jz(pss:Ξ):Prop:=pss.Nodup/\∀ps∈pss,ps≠[]/\ps.length<=4/\aV ps=true/\∀x∈ps,0<=x/\x<=5
def Base(b:Ξ):Prop:=(∃n,n<20/\b=known n)\/(b.length<=5/\jz b)
def Drawn(af:Ξ):Prop:=∃b first a,Base b/\0<=first/\first<12/\1<=a/\a<=3/\af.Perm (b.map (cx first a))
def LP:∀n,n<20->(known n).length<=20/\∀ps∈known n,ps≠[]/\ps.length<=5:=δ
section
variable{P:Program}{w:World}{K:Ae}{mg:Str->Option Value}{base:Heap}
def FK:Sp:=fun vs H Q _=>∃p,vs=[.ref p]/\zK H p/\∀D bs af H',zx p H H'->zK H' p->H D=none->H' D=some (.lst (bs.map V.ref))->Tps H' bs af->Drawn af->Q (.ref D) H'
def ll:zn ["box","found","k","some","j","piece"] ["box"] (zb iL):=⟨rfl,rfl,rfl,δ,rfl,δ,δ⟩
def LQ{f ft fn fk:Addr}{fd di nW dO:FuncData}(F:Fun K "_law_web" "_law_web" iL f fd)(B:Bt mg)(Ft:Fun K "_law_take" "_law_take" kf ft di)(T:Binds K di ["box","most"] [])(mt:mg "_law_take"=some (.ref ft))(Fn:Fun K "_law_named" "_law_named" oW fn nW)(bn:Binds K nW ["box","web"] [])(mn:mg "_law_named"=some (.ref fn))(Fk:Fun K "_law_known" "_law_known" so fk dO)(bk:Binds K dO ["number"] [])(mk:mg "_law_known"=some (.ref fk)):FnOk P w K mg base aw 3 f fd ["box"] FK:=by
 have Gt:FnOk P w K mg base aw 1 ft di ["box","most"] kg:=oI Ft;have Gn:FnOk P w K mg base aw 2 fn nW ["box","web"] FJ:=LK Fn B Ft T mt;have Gk:FnOk P w K mg base aw 1 fk dO ["number"] FI:=LI Fk B;refine F.ok ll (fun vs H Q E h=>?_) (fun cdv A outer s H vs Q E hr h=>?_)
 ·obtain⟨p,rfl,_⟩:=h;rfl
 ·obtain⟨p,rfl,hb,k⟩:=h
  have hu:=dr hr;have av:=hr.units;have g:Room 1 _:=hr.mono ξ;refine⟨_,za (zN (zo c_ (zq Gt g rfl mt Ft.kp T .nil am (ac (pv 0) (ac ze al))) ze (aq _))
    (zd (zr (zq Gn hr rfl mn Fn.kp bn .nil am (ac (pv 0) (ac (zq Gk g rfl mk Fk.kp bk .nil am (ac (zq Gt g rfl mt Ft.kp T .nil am (ac (pv 0) (ac ze al))) al)) al))))) zv)
   (za (zp (i:=1) ll.nd rfl (Or.inl rfl) (zQ al))
   (za (zZ AU rfl (kL rfl B.range (ac (zq Gt g rfl mt Ft.kp T .nil am (ac (pv 0) (ac ze al))) al)) (zk (i:=2) ll.nd rfl (Or.inl rfl))
    (za (zp (i:=3) ll.nd rfl (Or.inl rfl) DR)
    (za (zZ AU rfl (kL rfl B.range (ac (zD dY ze (zq Gt g rfl mt Ft.kp T .nil am (ac (pv 0) (ac ze al)))) al)) (zk (i:=4) ll.nd rfl (Or.inl rfl))
     (zd (hV hu (pv 3) (zq Gt g rfl mt Ft.kp T .nil am (ac (pv 0) (ac ze al))) dc rfl)))
    (za (zp (i:=5) ll.nd rfl (Or.inl rfl) (zj zE rfl B.tuple gG (ac (zh rj rfl B.sorted gD (ac (zj (x8 rfl) rfl B.list eY (ac (pv 3) al)) al)) al)))
    (zd (zN (zo (Ev (in1_units av)) (pv 5) (pv 1) (by with_unfolding_all rfl)) (zd (fE (iE PySem.F.plainAttrs_list PySem.F.slot_list_append PySem.F.type_list_append qX (pv 1) (ac (pv 5) al)))) zv))))))
   (zd (zr (zq Gn hr rfl mn Fn.kp bn .nil am (ac (pv 0) (ac (pv 1) al))))))),?_⟩
  refine⟨_,rfl,p,2,rfl,hb,ξ,ξ,fun r H1 r0 r1 eD u=>⟨rfl,_,rfl,?_⟩⟩;refine bc (fun h1=>?_) (fun h1=>?_)
  ·refine⟨_,rfl,_,rfl,p,20,rfl,u,ξ,ξ,fun n H2 n0 n1 cO aU=>?_⟩
   obtain⟨m,rfl⟩:=Int.eq_ofNat_of_zero_le n0;refine⟨m,rfl,ω,fun D as H3 aI dC hD ht=>?_⟩;obtain⟨g1,g2⟩:=LP m ω;have U:=(eD.trans cO).trans (zx.of aI);have aD:=aU.same aI;refine⟨p,D,as,known m,rfl,aD,hD,ht,g1,fun ps hp=>by have:=(g2 ps hp).2;omega,fun D' bs af first aJ G I v fZ a7 O c1 c2 c3 c4 aW=>?_⟩;exact k D' bs af G (U.trans I) v (U.free hb aD fZ) a7 O ⟨known m,first,aJ,.inl ⟨m,ω,rfl⟩,c1,c2,c3,c4,aW⟩
  ·refine⟨zf (by simp),fun L hL=>?_⟩
   have Z:H L=none:=eD.free hb u hL;refine⟨_,rfl,p,6,rfl,u.new hL,ξ,ξ,fun r6 H3 a1 a2 U aD=>⟨r6,rfl,ω,ω,?_⟩⟩;have iZ:L≠p:=zK.ne (as:=[]) (u.new hL) ai;have m_:zx p H H3:=(eD.then Z).trans U;refine mW (lo:=0) (n:=r6.toNat) (fun i σ G=>∃as pss v2 v3 J v5,σ=[some (.ref p),some (.ref L),v2,v3,J,v5]/\zx p H G/\zK G p/\G L=some (.lst (as.map V.ref))/\Tps G as pss/\jz pss/\pss.length<=i)
    ⟨[],[],none,none,none,none,rfl,m_,aD,U _ _ iZ ai,.nil,⟨List.nodup_nil,fun ps h=>nomatch h⟩,Ag _⟩ ?_ ?_
   ·rintro i σ G hi ⟨as,pss,v2,v3,J,v5,rfl,I,v,fN,O,c,X⟩
    have aF:=O.length;intro d hd;have eF:H d=none:=I.free hb v hd;have wV:L≠d:=zg fN hd;refine⟨_,rfl,p,4,rfl,v.new hd,ξ,ξ,fun r4 H5 e1 e2 S bW=>⟨_,_,rfl,rfl,_,rfl,ω,ω,?_⟩⟩;have lM:d≠p:=by
     obtain⟨x,y,e,_⟩:=v.new (o:=.dK []) hd;exact a0 ai e (by intro z;cases z)
    have s4:=Same.new (o:=.dK []) hd;refine mW (lo:=0) (n:=(1+r4).toNat) (fun j σ q=>∃seq J,σ=[some (.ref p),some (.ref L),some (.int (0+i)),some (.ref d),J,v5]/\zx p H q/\zK q p/\q L=some (.lst (as.map V.ref))/\Tps q as pss/\q d=some (.dK (ij seq))/\seq.length=j/\∀x∈seq,0<=x/\x<=5)
     ⟨[],_,rfl,(I.then eF).trans S,bW,S _ _ iZ (s4 _ _ fN),S.tps (v.new hd) (s4.tps O),S _ _ lM ai,rfl,fun x h=>nomatch h⟩ ?_ ?_
    ·rintro j σ q hj ⟨seq,J,rfl,bF,bz,M,Y,iN,lI,oF⟩
     refine⟨_,rfl,_,rfl,p,6,rfl,bz,ξ,ξ,fun r H7 f1 f2 C gW=>⟨d,_,rfl,DPut.k (k:=Sum.inl r) (C _ _ lM iN) (e_ (by have:=LL seq;omega)),⟨seq++[r],_,rfl,(bF.trans C).then eF,gW.upd lM,?_,?_,by rw[ai,LM],by rw[As,lI];rfl,?_⟩⟩⟩
     ·rw[zl wV];exact C _ _ iZ M
     ·exact Tps.upd (C.tps bz Y) (C _ _ lM iN) (by intro xs z;cases z)
     ·intro x hx
      rcases List.mem_append.mp hx with hx|hx
      ·exact oF x hx
      ·rw[Bh] at hx;subst hx;omega
    ·rintro σ q ⟨seq,J,rfl,bF,bz,M,Y,iN,lI,oF⟩
     refine⟨_,rfl,d,_,rfl,iN,fun l2 hl2=>⟨l2,dd seq,rfl,SqL.of (by rw[ai,LN]),(by have:=fj seq;omega),fun D2 ms hp hs aE=>⟨D2,_,rfl,.inl ⟨SqL.of ai,fun t dN=>?_⟩⟩⟩⟩;have l:Same q (upd (upd (upd q l2 (.lst ((ij seq).map fun kv=>kV kv.1))) D2 (.lst (ms.map V.int))) t (.tup (ms.map V.int))):=((Same.new hl2).trans (Same.new aE)).trans (Same.new dN);generalize hH7:upd (upd (upd q l2 (.lst ((ij seq).map fun kv=>kV kv.1))) D2 (.lst (ms.map V.int))) t (.tup (ms.map V.int))=H7 at l;have qd:Tp H7 t ms:=by rw[<-hH7];exact ai
     have C:=bF.trans (zx.of l);have gW:=bz.same l;refine⟨_,rfl,_,rfl,t,L,ms,as,pss,rfl,rfl,qd,SqL.of (l _ _ M),l.tps Y,_,rfl,?_⟩;have iU:ms≠[]/\ms.length<=4/\aV ms=true/\∀x∈ms,0<=x/\x<=5:=by
      refine⟨fun z=>?_,?_,LO hs (hp.nodup_iff.mpr (lc seq)),fun x hx=>oF x ((gv seq x).mp (hp.mem_iff.mp hx))⟩
      ·have h0:dd seq=[]:=by rw[z] at hp;exact(List.nil_perm.mp hp)
       cases hq:seq with
       |nil=>rw[hq] at lI;simp at lI;omega
       |cons x r=>
        have:=(gv seq x).mpr (by rw[hq];exact Av);rw[h0] at this;cases this
      ·have:=fj seq
       rw[hp.length_eq];omega
     by_cases N:ms∈pss
     ·rw[decide_eq_true N]
      exact aH ⟨as,pss,_,_,_,_,rfl,C,gW,l _ _ M,l.tps Y,c,ω⟩
     ·rw[decide_eq_false N]
      refine aX ⟨_,rfl,.inl ⟨rfl,_,SqL.of (l _ _ M)⟩,_,rfl,L,_,_,rfl,rfl,l _ _ M,e_ (by rw[Ab];omega),⟨as++[t],pss++[ms],_,_,_,_,rfl,C.then Z,gW.upd iZ,by rw[ai,Am];rfl,Tps.upd (Tps.snoc (l.tps Y) qd) (l _ _ M) (by intro xs z;cases z),⟨?_,?_⟩,by rw[As];simp;omega⟩⟩
      ·rw[List.nodup_append]
       refine⟨c.1,by simp,fun a ha b W e=>?_⟩;rw[Bh] at W;subst W;subst e;exact N ha
      ·intro ps aM
       rcases List.mem_append.mp aM with h|h
       ·exact c.2 ps h
       ·rw[Bh] at h;subst h;exact iU
   ·rintro σ G ⟨as,pss,v2,v3,J,v5,rfl,I,v,fN,O,c,X⟩
    refine⟨_,rfl,_,rfl,p,L,as,pss,rfl,v,fN,O,ω,fun ps hp=>by have:=(c.2 ps hp).2.1;omega,fun D' bs af first aJ H5 S bW fZ cH nT c1 c2 c3 c4 aW=>?_⟩;exact k D' bs af H5 (I.trans S) bW (I.free hb v fZ) cH nT ⟨pss,first,aJ,.inr ⟨ω,c⟩,c1,c2,c3,c4,aW⟩
end
end K56
end
section
namespace K1
open PySem L2 STb
def FM:∀a b:List Int,HT.lexLt a b=true->HT.lexLt b a=false
 |[],[],h=>rfl
 |[],_::_,h=>rfl
 |_::_,[],h=>by rw[HT.Dx] at h;exact absurd h Aq
 |x::xs,y::ys,h=>by
  rw[HT.zF] at h ⊢
  by_cases e:x=y
  ·rw[if_pos e] at h;rw[if_pos e.symm];exact FM xs ys h
  ·rw[if_neg e] at h;rw[if_neg (fun z=>e z.symm)]
   have:=of_decide_eq_true h;exact decide_eq_false ω
def FN:∀a b:List Int,HT.lexLt a b=false->HT.lexLt b a=false->a=b
 |[],[],_,_=>rfl
 |[],_::_,h,_=>by rw[HT.zW] at h;exact absurd h ξ
 |_::_,[],_,h=>by rw[HT.zW] at h;exact absurd h ξ
 |x::xs,y::ys,h,h'=>by
  rw[HT.zF] at h h'
  by_cases e:x=y
  ·rw[if_pos e] at h;rw[if_pos e.symm] at h'
   rw[e,FN xs ys h h']
  ·rw[if_neg e] at h;rw[if_neg (fun z=>e z.symm)] at h'
   have:=of_decide_eq_false h;have:=of_decide_eq_false h';omega
def k4:∀a b c:List Int,HT.lexLt b a=false->HT.lexLt c b=false->HT.lexLt c a=false
 |[],b,c,_,_=>by cases c with
  |nil=>rfl
  |cons _ _=>rfl
 |_::_,[],c,h,_=>by rw[HT.zW] at h;exact absurd h ξ
 |_::_,_::_,[],_,h=>by rw[HT.zW] at h;exact absurd h ξ
 |x::xs,y::ys,z::zs,h,h'=>by
  rw[HT.zF] at h h' ⊢
  by_cases e:y=x
  ·rw[if_pos e] at h
   by_cases e2:z=y
   ·rw[if_pos e2] at h';rw[if_pos (e2.trans e)];exact k4 xs ys zs h h'
   ·rw[if_neg e2] at h';rw[if_neg ω]
    have:=of_decide_eq_false h';exact decide_eq_false ω
  ·rw[if_neg e] at h
   have h1:=of_decide_eq_false h
   by_cases e2:z=y
   ·rw[if_neg ω]
    exact decide_eq_false ω
   ·rw[if_neg e2] at h'
    have h2:=of_decide_eq_false h';rw[if_neg ω];exact decide_eq_false ω
def key(p:List Int):List Int:=(p.length:Int)::p
def kle(a b:List Int):Bool:=!HT.lexLt (key b) (key a)
def oZ{a b:List Int}:kle a b=true↔HT.lexLt (key b) (key a)=false:=by unfold kle;simp
def canon(pss:Ξ):Ξ:=(dd (pss.flatMap parts)).mergeSort kle
def o6(pss:Ξ):(canon pss).Perm (dd (pss.flatMap parts)):=List.mergeSort_perm _ _
def FO(pss:Ξ):(canon pss).Pairwise (fun a b=>kle a b=true):=by
 refine List.pairwise_mergeSort (fun a b c h1 h2=>?_) (fun a b=>?_) _
 ·rw[oZ] at h1 h2 ⊢;exact k4 _ _ _ h1 h2
 ·rw[Bool.or_eq_true,oZ,oZ]
  cases h:HT.lexLt (key b) (key a) with
  |false=>exact .inl rfl
  |true=>exact .inr (FM _ _ h)
def sr{pss:Ξ}{x:List Int}:x∈canon pss↔x∈pss.flatMap parts:=by rw[(o6 pss).mem_iff,gv]
def LR(pss:Ξ):(canon pss).Nodup:=(o6 pss).nodup_iff.mpr (lc _)
def zS(pss:Ξ):(canon pss).length=(dd (pss.flatMap parts)).length:=(o6 pss).length_eq
def LS{l m:Ξ}(hp:l.Perm m)(h1:l.Pairwise (fun a b=>kle a b=true))(h2:m.Pairwise (fun a b=>kle a b=true)):l=m:=by
 refine List.Perm.eq_of_pairwise (fun a b _ _ g1 g2=>?_) h1 h2 hp;rw[oZ] at g1 g2;have:=FN _ _ g2 g1;unfold key at this;exact(List.cons.inj this).2
def canon_of{pss l:Ξ}(hp:l.Perm (dd (pss.flatMap parts)))(hs:l.Pairwise (fun a b=>HT.lexLt ((b.length:Int)::b) ((a.length:Int)::a)=false)):l=canon pss:=
 LS (hp.trans (o6 pss).symm) (hs.imp fun h=>oZ.mpr h) (FO pss)
def sG:∀(n:Nat)(p q:List Int),p.length=n->(q∈subs p↔q.Sublist p)
 |0,p,q,h=>by
  obtain rfl:=List.eq_nil_of_length_eq_zero h;show q∈[[]]↔_;simp
 |n+1,p,q,h=>by
  obtain⟨r,x,rfl⟩:∃r x,p=r++[x]:=by
   rcases List.eq_nil_or_concat p with e|⟨r,x,e⟩
   ·rw[e] at h;cases h
   ·exact⟨r,x,by rw[e,List.concat_eq_append]⟩
  have hr:r.length=n:=by simpa using h
  rw[BJ,List.mem_append,sG n r q hr,List.mem_map,List.sublist_append_iff];constructor
  ·rintro(h1|⟨y,hy,rfl⟩)
   ·exact⟨q,[],by simp,h1,List.nil_sublist _⟩
   ·exact⟨y,[x],rfl,(sG n r y hr).mp hy,List.Sublist.refl _⟩
  ·rintro⟨a,d,rfl,b,c⟩
   cases c with
   |cons _ h=>
    obtain rfl:=List.sublist_nil.mp h;exact .inl (by simpa using b)
   |cons_cons _ h=>
    obtain rfl:=List.sublist_nil.mp h;exact .inr ⟨a,(sG n r a hr).mpr b,rfl⟩
def z0{p q:List Int}:q∈parts p↔q≠[]/\q.Sublist p:=by
 obtain⟨t,e,a⟩:=BL p;have hs:=sG p.length p q rfl;rw[e] at hs;unfold parts;rw[e];show q∈t↔_;constructor
 ·intro h
  exact⟨a q h,hs.mp (Ay _ h)⟩
 ·rintro⟨h1,h2⟩
  rcases List.mem_cons.mp (hs.mpr h2) with h|h
  ·exact absurd h h1
  ·exact h
def o7:∀p:List Int,aV p=true↔p.Pairwise (·<·)
 |[]=>by simp[aV]
 |[a]=>by simp[aV]
 |a::b::r=>by
  have c:=o7 (b::r);rw[show aV (a::b::r)=(decide (a<b)&&aV (b::r)) from rfl,AN,decide_eq_true_eq,c,List.pairwise_cons (a:=a)];constructor
  ·rintro⟨h1,h2⟩
   refine⟨fun x hx=>?_,h2⟩;rcases List.mem_cons.mp hx with rfl|hx
   ·exact h1
   ·have:=(List.pairwise_cons.mp h2).1 x hx
    omega
  ·rintro⟨h1,h2⟩
   exact⟨h1 b Av,h2⟩
def lu{p:List Int}:eX p=true↔p≠[]/\p.length<=5/\(∀x∈p,0<=x/\x<=99)/\p.Pairwise (·<·):=by
 unfold eX;simp only[AN,decide_eq_true_eq,List.all_eq_true,o7];constructor
 ·rintro⟨⟨⟨h1,h2⟩,a⟩,b⟩
  exact⟨fun z=>by rw[z] at h1;simp at h1,h2,a,b⟩
 ·rintro⟨h1,h2,a,b⟩
  refine⟨⟨⟨?_,h2⟩,a⟩,b⟩;cases p with
  |nil=>exact absurd rfl h1
  |cons _ _=>simp
def LU{p q:List Int}(h:eX p=true)(hq:q∈parts p):eX q=true:=by
 rw[lu] at h ⊢;rw[z0] at hq;exact⟨hq.1,AO hq.2.length_le h.2.1,fun x hx=>h.2.2.1 x (hq.2.subset hx),h.2.2.2.sublist hq.2⟩
def LV{pss:Ξ}(g:pss.Nodup)(hp:∀p∈pss,eX p=true):E5 pss pss.length:=by
 intro i p hi e;refine⟨fun hm=>?_,hp p (Ap e)⟩;obtain⟨j,b⟩:=List.mem_iff_getElem?.mp hm;obtain⟨c,a⟩:=List.getElem?_eq_some_iff.mp b;rw[AG] at c;obtain⟨d,f⟩:=List.getElem?_eq_some_iff.mp e;have:=List.pairwise_iff_getElem.mp g j i ω d ω;rw[List.getElem_take] at a;exact this (a.trans f.symm)
def FP{pss:Ξ}(a:pss.length<=20)(b:pss.Nodup)(hp:∀p∈pss,eX p=true)(h:(dd (pss.flatMap parts)).length<=200):bI pss=true:=by
 rw[Kv pss a (LV b hp),decide_eq_true h]
def iO{pss:Ξ}(h:bI pss=true):pss.length<=20/\(∀p∈pss,eX p=true)/\(∀p∈pss,p.length<=5)/\(dd (pss.flatMap parts)).length<=200:=by
 unfold bI at h;simp only[AN,decide_eq_true_eq,List.all_eq_true] at h;obtain⟨⟨⟨h1,h2⟩,c⟩,b⟩:=h;have a:∀p∈pss,eX p=true:=fun p hp=>by rw[<-E4];exact h2 p hp
 exact⟨h1,a,fun p hp=>(lu.mp (a p hp)).2.1,b⟩
def over(o p:List Int):Bool:=decide (p.length<o.length)&&p.all fun x=>decide (x∈o)
end K1
end
section
namespace K56
open K1
open PySem L2 STb
def LW(b:Ξ):Prop:=b.Nodup/\b.length<=17/\(∀ps∈b,ps≠[]/\ps.length<=5/\aV ps=true/\∀x∈ps,0<=x/\x<=7)/\(b.flatMap parts).length<=200
def LX:∀n,n<20->(known n).Nodup/\(known n).length<=17/\(∀ps∈known n,ps≠[]/\ps.length<=5/\aV ps=true/\∀x∈ps,0<=x/\x<=7)/\((known n).flatMap parts).length<=200:=δ
def FQ{m:Nat}:∀{b:Ξ},(∀ps∈b,(parts ps).length<=m)->(b.flatMap parts).length<=m*b.length
 |[],_=>by simp
 |p::r,h=>by
  have h1:=h p Av;have h2:=FQ (b:=r) fun q hq=>h q (Ay _ hq);rw[List.flatMap_cons,As,Au,Nat.mul_succ];omega
def FR{b:Ξ}(h:Base b):LW b:=by
 rcases h with ⟨n,a,rfl⟩|⟨e,hs⟩
 ·exact LX n a
 ·refine⟨hs.1,ω,fun ps hp=>?_,?_⟩
  ·obtain⟨h1,h2,c,d⟩:=hs.2 ps hp
   exact⟨h1,ω,c,fun x hx=>by have:=d x hx;omega⟩
  ·have:=FQ (m:=15) (b:=b) fun ps hp=>by
    rw[lf];have h2:=(hs.2 ps hp).2.1;have:2 ^ ps.length<=2 ^ 4:=Nat.pow_le_pow_right ξ h2;omega
   omega
def LY{first a:Int}(b:1<=a){p q:List Int}(h:cx first a p=cx first a q):p=q:=by
 unfold cx at h;refine(List.map_inj_right (f:=fun x=>first+a*x) (fun x y e=>?_)).mp h;have:a*x=a*y:=ω
 exact Int.eq_of_mul_eq_mul_left ω this
def LZ{first f:Int}(i:0<=first)(h1:first<12)(j:1<=f)(l:f<=3){p:List Int}(h:p≠[]/\p.length<=5/\aV p=true/\∀x∈p,0<=x/\x<=7):eX (cx first f p)=true:=by
 obtain⟨a,b,c,d⟩:=h;rw[lu];unfold cx;refine⟨fun z=>a (List.map_eq_nil_iff.mp z),by rw[Ab];exact b,fun y hy=>?_,?_⟩
 ·obtain⟨x,hx,rfl⟩:=List.mem_map.mp hy
  have:=d x hx;have g:f=1\/f=2\/f=3:=ω
  rcases g with rfl|rfl|rfl<;>omega
 ·rw[o7] at c
  rw[Bf];refine c.imp fun{x y} e=>?_;have:f*x<f*y:=Int.mul_lt_mul_of_pos_left e ω;omega
def lv{q:Ξ}(h:Drawn q):bI q=true/\q.Nodup/\q.length<=17:=by
 obtain⟨b,first,d,hb,f,h1,a,g,hp⟩:=h;obtain⟨n1,n2,i,j⟩:=FR hb;have l:q.length<=17:=by rw[hp.length_eq,Ab];exact n2
 have c:q.Nodup:=by
  rw[hp.nodup_iff];unfold List.Nodup at n1 ⊢;rw[Bf];exact n1.imp fun{x y} e z=>e (LY a z)
 refine⟨FP ω c (fun p hm=>?_) ?_,c,l⟩
 ·obtain⟨r,hr,rfl⟩:=List.mem_map.mp (hp.mem_iff.mp hm)
  exact LZ f h1 a g (i r hr)
 ·refine AO (fj _) ?_
  rw[(hp.flatMap_right parts).length_eq];have:∀b:Ξ,((b.map (cx first d)).flatMap parts).length=(b.flatMap parts).length:=by
   intro b
   induction b with
   |nil=>rfl
   |cons p r ih=>
    rw[Ax,List.flatMap_cons,List.flatMap_cons,As,As,ih,lf,lf];unfold cx;rw[Ab]
  rw[this];exact j
end K56
end
section
namespace K1
open PySem L2 STb
def L3(q:List Int):Ξ:=if q.length=1 then [] else(Ba q.length).map fun k=>q.take k++q.drop (k+1)
def Cn:∀(o p:List Int),o.Pairwise (·<·)->p.Pairwise (·<·)->(∀x∈p,x∈o)->p.Sublist o
 |[],p,_,_,h=>by
  cases p with
  |nil=>exact List.Sublist.slnil
  |cons a r=>exact absurd (h a Av) (by simp)
 |b::o,p,ho,hp,h=>by
  obtain⟨d,dl⟩:=List.pairwise_cons.mp ho;cases p with
  |nil=>exact List.nil_sublist _
  |cons a r=>
   obtain⟨c,f⟩:=List.pairwise_cons.mp hp
   by_cases e:a=b
   ·subst e
    refine(Cn o r dl f fun x hx=>?_).cons_cons a;rcases List.mem_cons.mp (h x (Ay _ hx)) with rfl|q
    ·have:=c x hx;omega
    ·exact q
   ·have g:a∈o:=by
     rcases List.mem_cons.mp (h a Av) with q|q
     ·exact absurd q e
     ·exact q
    have i:=d a g;refine(Cn o (a::r) dl hp fun x hx=>?_).cons b;rcases List.mem_cons.mp (h x hx) with q|q
    ·exfalso
     rcases List.mem_cons.mp hx with z|z
     ·omega
     ·have:=c x z;omega
    ·exact q
end K1
end
section
namespace K56
open K1
open PySem L2 STb
def L4:∀n,n<20->(dd ((known n).flatMap parts)).length<=56:=δ
def six:Ξ:=(parts [0,1,2,3,4,5]).filter fun q=>decide (q.length<=4)
def L5:six.length=56:=δ
def L6{b:Ξ}(h:Base b):(dd (b.flatMap parts)).length<=56:=by
 rcases h with ⟨n,a,rfl⟩|⟨c,hs⟩
 ·exact L4 n a
 ·rw[<-L5]
  refine(lc _).length_le_of_subset fun x hx=>?_;rw[gv,List.mem_flatMap] at hx;obtain⟨p,hp,hx⟩:=hx;obtain⟨_,d,hr,hb⟩:=hs.2 p hp;rw[z0] at hx;have e:=hx.2.length_le;unfold six;rw[List.mem_filter,z0];refine⟨⟨hx.1,hx.2.trans (Cn _ _ ξ ((o7 p).mp hr) fun y hy=>?_)⟩,decide_eq_true ω⟩;have:=hb y hy;have:y=0\/y=1\/y=2\/y=3\/y=4\/y=5:=ω
  rcases this with rfl|rfl|rfl|rfl|rfl|rfl<;>decide
def lC{q:Ξ}(h:Drawn q):(dd (q.flatMap parts)).length<=56:=by
 obtain⟨b,first,d,hb,_,_,_,_,hp⟩:=h;refine AO ?_ (L6 hb);have e:((dd (b.flatMap parts)).map (cx first d)).length=(dd (b.flatMap parts)).length:=Ab _;rw[<-e];refine(lc _).length_le_of_subset fun x hx=>?_;rw[gv,List.mem_flatMap] at hx;obtain⟨p,hm,hx⟩:=hx;obtain⟨r,hr,rfl⟩:=List.mem_map.mp (hp.mem_iff.mp hm);rw[z0] at hx;obtain⟨a,c⟩:=hx;unfold cx at c;obtain⟨y,hy,rfl⟩:=List.sublist_map_iff.mp c;refine List.mem_map.mpr ⟨y,?_,rfl⟩;rw[gv,List.mem_flatMap];exact⟨r,hr,z0.mpr ⟨fun z=>a (by rw[z];rfl),hy⟩⟩
end K56
end
section
namespace K56
open K1
open PySem L2 STb
def b0(pss:Ξ):Prop:=bI pss=true/\(canon pss).length<64
abbrev sK:Stmt:=top 25
abbrev o8:Stmt:=top 26
def FS{H:Hp}:∀{a:List (List Int×Addr)},(∀q∈a,Tp H q.2 q.1)->Tps H (a.map (·.2)) (a.map (·.1))
 |[],_=>.nil
 |q::r,h=>.cons (h q Av) (FS fun x hx=>h x (Ay _ hx))
def lD{H H2:Hp}{pss:Ξ}{D:Addr}{a:List (List Int×Addr)}(t:Told H H2 pss D a):∃bs,Same H H2/\H D=none/\H2 D=some (.lst (bs.map V.ref))/\Tps H2 bs (canon pss):=by
 obtain⟨b,c,d,hq,hp,hs⟩:=t;have e:a.map (·.1)=canon pss:=canon_of hp (List.pairwise_map.mpr hs);refine⟨a.map (·.2),b,c,by rw[d,At];rfl,?_⟩;rw[<-e];exact FS hq
section
variable{P:Program}{w:World}{K:Ae}{mg:Str->Option Value}{base:Heap}
def sN(K:Ae):Sp:=fun vs H Q _=>∃l as pss,vs=[.ref l]/\SqL K H l (as.map V.ref)/\Tps H as pss/\b0 pss/\∀D H2 bs,Same H H2->H D=none->H2 D=some (.lst (bs.map V.ref))->Tps H2 bs (canon pss)->Q (.ref D) H2
def L7:zn ["web"] ["web"] (zb o8):=⟨rfl,rfl,rfl,δ,rfl,δ,δ⟩
def L8:zn ["web"] ["web"] (zb sK):=⟨rfl,rfl,rfl,δ,rfl,δ,δ⟩
def FT(K:Ae):Sp:=fun vs H Q _=>∃l as pss,vs=[.ref l]/\SqL K H l (as.map V.ref)/\Tps H as pss/\b0 pss/\∀H2,Same H H2->Q .non H2
def L9{f fw:Addr}{fd cp:FuncData}(F:Fun K "must_be_web" "must_be_web" sK f fd)(Fw:Fun K "is_web" "is_web" rL fw cp)(d:Binds K cp ["web"] [])(e:mg "is_web"=some (.ref fw))(g:FnOk P w K mg base aw 6 fw cp ["web"] (Fh K)):FnOk P w K mg base aw 7 f fd ["web"] (FT K):=by
 refine F.ok L8 (fun vs H Q E h=>?_) (fun cdv A outer s H vs Q E hr h=>?_)
 ·obtain⟨l,as,pss,rfl,_⟩:=h;rfl
 ·obtain⟨l,as,pss,rfl,b,c,hw,k⟩:=h
  refine⟨_,zd (zN (eL (fg (zq g hr rfl e Fw.kp d .nil am (ac (pv 0) al)))) Dh zv),?_⟩;refine⟨_,rfl,l,as,pss,rfl,b,c,(fun _=>by rw[<-zS];exact hw.2),fun H1 a=>⟨_,rfl,?_⟩⟩;rw[hw.1];exact aH (k H1 a)
def L_{f fw fa:Addr}{fd cp c:FuncData}(F:Fun K "pieces" "pieces" o8 f fd)(Fw:Fun K "must_be_web" "must_be_web" sK fw cp)(q:Binds K cp ["web"] [])(r:mg "must_be_web"=some (.ref fw))(x:FnOk P w K mg base aw 7 fw cp ["web"] (FT K))(Fa:Fun K "all_parts" "all_parts" sAll fa c)(u:Binds K c ["some"] [])(v:mg "all_parts"=some (.ref fa))(y:FnOk P w K mg base aw 5 fa c ["some"] (lj K)):FnOk P w K mg base aw 8 f fd ["web"] (sN K):=by
 refine F.ok L7 (fun vs H Q E h=>?_) (fun cdv A outer s H vs Q E hr h=>?_)
 ·obtain⟨l,as,pss,rfl,_⟩:=h;rfl
 ·obtain⟨l,as,pss,rfl,d,e,hw,k⟩:=h
  have b:Room 5 _:=hr.mono ξ;refine⟨_,za (fE (zq x hr rfl r Fw.kp q .nil am (ac (pv 0) al)))
   (zd (zr (zq y b rfl v Fa.kp u .nil am (ac (pv 0) al)))),?_⟩
  obtain⟨g,_,i,_⟩:=iO hw.1;refine⟨_,rfl,l,as,pss,rfl,d,e,hw,fun H1 a=>?_⟩;refine⟨_,rfl,l,as,pss,rfl,a.seq d,a.tps e,i,g,(by rw[<-zS];exact hw.2),fun D H2 z t=>?_⟩;obtain⟨bs,j,o,p,hb⟩:=lD t;exact k D H2 bs (a.trans j) (a.free o) p hb
end
end K56
end
section
namespace STb
def FU(ns:List Int):∀i,i<=ns.length->PyProof.Rows.firstMet (fun i=>ns.getD i 0) i=dd (ns.take i):=by
 intro i
 induction i with
 |zero=>intro _;simp[PyProof.Rows.firstMet,dd]
 |succ i ih=>
  intro hi;have hx:ns[i]?=some ns[i]:=Af ω;have a:ns.take (i+1)=ns.take i++[ns[i]]:=by rw[List.take_add_one,hx];rfl
  rw[PyProof.Rows.firstMet_succ,ih ω,a,hY];have b:ns.getD i 0=ns[i]:=by rw[AR,hx];rfl
  rw[b];unfold PyProof.Rows.step_dedup
  by_cases q:ns[i]∈dd (ns.take i)
  ·rw[if_pos q];simp[q]
  ·rw[if_neg q];simp[q]
def iP{a:Type}[DecidableEq a](l:List a)(x:a):x∈dd l↔x∈l:=by
 suffices ∀(n:Nat),x∈dd (l.take n)↔x∈l.take n by simpa using this l.length
 intro n
 induction n with
 |zero=>simp[dd]
 |succ n ih=>
  rw[List.take_add_one];cases e:l[n]? with
  |none=>simpa[e] using ih
  |some y=>
   show x∈dd (l.take n++[y])↔x∈l.take n++[y];rw[hY]
   by_cases q:y∈dd (l.take n)
   ·rw[if_pos q,List.mem_append,Bh,ih]
    exact⟨.inl,fun z=>z.elim id fun z=>by
     subst z;exact ih.mp q⟩
   ·rw[if_neg q,List.mem_append,List.mem_append,ih]
def L'{c:Type}[DecidableEq c](l:List c):(dd l).Nodup:=by
 suffices ∀(n:Nat),(dd (l.take n)).Nodup by simpa using this l.length
 intro n
 induction n with
 |zero=>simp[dd]
 |succ n ih=>
  rw[List.take_add_one];cases e:l[n]? with
  |none=>simpa[e] using ih
  |some y=>
   show(dd (l.take n++[y])).Nodup;rw[hY]
   by_cases q:y∈dd (l.take n)
   ·rw[if_pos q];exact ih
   ·rw[if_neg q,List.nodup_append]
    refine⟨ih,by simp,fun a d b hb=>?_⟩;rw[List.mem_singleton.mp hb];exact fun z=>q (z▸d)
def Ma{d:Type}[DecidableEq d](l:List d):(dd l).length<=1↔∀x∈l,∀y∈l,x=y:=by
 constructor
 ·intro h x hx y hy
  have hx':=(iP l x).mpr hx;have hy':=(iP l y).mpr hy
  match hd:dd l,h,hx',hy' with
  |[a],_,hx',hy'=>rw[List.mem_singleton.mp hx',List.mem_singleton.mp hy']
  |a::b::r,h,_,_=>simp at h
 ·intro h
  have c:=L' l
  match hd:dd l with
  |[]=>simp
  |[a]=>simp
  |a::b::r=>
   rw[hd] at c;have:=h a ((iP l a).mp (by rw[hd];simp)) b ((iP l b).mp (by rw[hd];simp));subst this;simp at c
end STb
namespace L2
open PySem PySem.Spec PyProof.Rows
section
variable{X:Cx}
def Mb(hc:X.calm=true):zU X (.type "set") (fun xs H Q=>∃(l:Addr)(ns:List Int),xs=[.ref l]/\SqL X.K H l (ns.map V.int)/\ns.length<1000/\
  ∀D S,H D=none->Q (.ref D) (upd H D (.set S (STb.dd ns).length))):=by
 intro aa s σ H xs us Q I r h;obtain⟨l,ns,rfl,hq,hz,q⟩:=h;obtain⟨u,rfl,g⟩:=vals1 r;cases g;obtain⟨a,d,p1,_⟩:=I.list hq;have hi:=intsAre_of d;have j:a.length=ns.length:=by simpa using (A2 d).symm
 refine call_set_list (ns:=ns) (I.ok.hd hc) p1.isList (by simpa using hi) (by rw[Aj];unfold scanBound;omega) fun h' tk T f=>?_;have hsz:a.toArray.size=ns.length:=by rw[Aj];exact j
 have c:firstMet (fun i=>ns.getD i 0) a.toArray.size=STb.dd ns:=by rw[hsz,STb.FU ns _ (Ag _),List.take_length]
 rw[c] at T;exact⟨.ref s⁻¹,_,I.laid (o:=.set _ (STb.dd ns).length) (fun b u e=>f b u (Ak e) e) (Ag _) (show Heap.SetOf _ _ _ _ _ from T),rfl,q _ _ (I.hok.fresh (Ag _))⟩
def Mc:zU X (.builtin "len") (fun xs H Q=>∃D S n,xs=[.ref D]/\H D=some (.set S n)/\Q (.int n) H):=by
 intro aa s σ H xs us Q I r h;obtain⟨D,S,n,rfl,hq,q⟩:=h;obtain⟨u,rfl,a⟩:=vals1 r;cases a;obtain⟨o,es,ep,t,h1,h2,b,f,g,c,d,e⟩:=(show s.heap.SetOf (intKind X.prog X.w) D S n from I.hok D _ hq);unfold scanBound at c;exact call_len_set h1 h2 b d ω ⟨.int n,H,I.tok _,⟨_,by rw[e]⟩,q⟩
end
end L2
end
section
namespace L2
open PySem PySem.Spec PyProof.Rows
section
variable{X:Cx}
def Md:zU X (.builtin "isinstance") (fun xs H Q=>∃n,xs=[.int n,.ty "int"]/\Q (.bl true) H):=by
 intro aa s σ H xs us Q I r h;obtain⟨n,rfl,q⟩:=h;obtain⟨u,c,rfl,a,b⟩:=vals2 r;cases b;exact qH I a (.int n) (by first|rfl|kernel_rfl|decide +kernel) fun tk=>⟨.bl true,H,I.tok _,rfl,q⟩
def Me:zU X (.builtin "isinstance") (fun xs H Q=>∃n,xs=[.int n,.ty "bool"]/\Q (.bl false) H):=by
 intro aa s σ H xs us Q I r h;obtain⟨n,rfl,q⟩:=h;obtain⟨u,c,rfl,a,b⟩:=vals2 r;cases b;exact qH I a (.int n) (by first|rfl|kernel_rfl|decide +kernel) fun tk=>⟨.bl false,H,I.tok _,rfl,q⟩
def Mf:zU X (.builtin "isinstance") (fun xs H Q=>∃a ys,xs=[.ref a,.ty "tuple"]/\H a=some (.tup ys)/\Q (.bl true) H):=by
 intro aa s σ H xs us Q I r h;obtain⟨a,ys,rfl,b,q⟩:=h;obtain⟨u,e,rfl,c,d⟩:=vals2 r;cases d;exact qH I c (.tup b) (by first|rfl|kernel_rfl|decide +kernel) fun tk=>⟨.bl true,H,I.tok _,rfl,q⟩
def FV(ns:List Int):∀k,k<=ns.length->preSum (fun i=>(ns[i]?).getD 0) k=(ns.take k).sum
 |0,_=>by simp[preSum]
 |k+1,h=>by
  have a:=FV ns k ω;have e:ns[k]?=some ns[k]:=Af ω;show preSum (fun i=>(ns[i]?).getD 0) k+(ns[k]?).getD 0=_;rw[a,List.take_add_one,e,List.sum_append];simp
def ints_get{ns:List Int}{a:List Value}(r:Vals (ns.map V.int) a){i:Nat}{v:Value}(h:a[i]?=some v):∃n t,ns[i]?=some n/\v=.int n t:=by
 have c:a.length=ns.length:=by rw[<-r.length,Ab]
 have hi:i<ns.length:=by rw[<-c];exact(List.getElem?_eq_some_iff.mp h).1
 have e:ns[i]?=some ns[i]:=Af hi;obtain⟨u,hu,b⟩:=r.get (show(ns.map V.int)[i]?=some (V.int ns[i]) by rw[Ai,e];rfl);rw[h] at hu;obtain rfl:=An hu;obtain⟨t,rfl⟩:=b;exact⟨_,t,e,rfl⟩
def Mg(hc:X.calm=true):zU X (.builtin "sum") (fun xs H Q=>∃(l:Addr)(ns:List Int),xs=[.ref l]/\SqL X.K H l (ns.map V.int)/\Q (.int ns.sum) H):=by
 intro aa s σ H xs us Q I r h;obtain⟨l,ns,rfl,hq,q⟩:=h;obtain⟨u,rfl,w⟩:=vals1 r;cases w;obtain⟨a,g,p1,_⟩:=I.list hq;have x:=I.ok.hd hc;have d:=p1.isList;have c:l<s⁻¹:=by obtain⟨_,e,_⟩:=d;exact Ak e
 have y:a.length=ns.length:=by rw[<-g.length,Ab]
 refine call_sum_walkAnyS (wpAny_pyIter_list d ?_);refine⟨s⁻¹,[s⁻¹,l],[s⁻¹],_,a.toArray.size,_,_,fun i=>(ns[i]?).getD 0,rfl,(Walks.list (A:=X.A.in1) x _ l (Ao c) a.toArray).toS,
  ⟨⟨_,Al _ rfl,rfl,rfl⟩,d.push _⟩,fun b hb=>?_,fun i v j=>?_,fun s' t' hm=>?_⟩
 ·have f:b<=s⁻¹:=by
   simp only[List.mem_cons,List.not_mem_nil,or_false] at hb;rcases hb with rfl|rfl
   ·exact Ag _
   ·exact Nat.le_of_lt c
  exact Nat.lt_of_le_of_lt f (Ak (Al _ rfl))
 ·obtain⟨n,t,e,rfl⟩:=ints_get g (show a[i]?=some v by simpa using j)
  exact⟨t,by simp only[e,Option.getD_some]⟩
 ·have e:preSum (fun i=>(ns[i]?).getD 0) a.toArray.size=ns.sum:=by
   rw[Aj,y,FV ns _ (Ag _),Az (Ag _)]
  rw[e,Moved.eq_with hm];exact⟨.int _,H,I.kept (LSm.kept_iter fun b o hb p=>hm.heap b o hb p),⟨_,rfl⟩,q⟩
end
end L2
end
section
namespace K1
open PySem L2 STb
def dM(a:Ξ):List Int:=a.map fun p=>(p.length:Int)
end K1
end
section
namespace DPr
open PySem PyProof.Rows
section
variable{prog:Program}{w:World}{A:Around}{E:Ω}{s:Shared}
def Mh:typeLookup (.type "list") "keys"=pure none:=by rw[typeLookup_type,builtinLookup_eq_fast];kernel_rfl
def FW{a:Addr}{o:Obj}{xs:Array Value}{k:Nat}{Q:Option Value->Shared->Prop}(hx:s.heap.get? a=some o)(hc:o.cls=.type "list")(f:o.data=.seq xs k)(hd:o.dict=none)(j:A.handled=none)(h:∀h' tk e,Heap.NewExcOf s.heap h' e "AttributeError"->Q none {s with heap:=h',toks:=tk}):wpAny (model prog w) A (getAttr? (.ref a) "keys") Q E s:=by
 obtain⟨c,p,q,i⟩:=o;simp only at hc f hd;subst hc f hd;obtain⟨hp,g,d,tk,os⟩:=s;have hT:∀b,(⟨hp,g,d,b,os⟩:Shared).TypeIs (.ref a) "list":=fun _=>⟨_,hx,rfl⟩;have f1:=sub_AttributeError;have f3:=F.slot_list_getattribute.lookup;have f4:=F.slot_list_getattribute.bind (.ref a);have f5:=am_list_getattr_none;unfold getAttr? getAttrBy? getAttrBy
 repeat(any_goals(first|assumption|exact hT _|((with_reducible show wpAny _ _ (call (Value.builtin "list.__getattribute__") _ _) _ _ _);refine call_meets F.slot_list_getattribute (hT _) am_entry_list_getattribute (F.args_list_getattribute_2 _ _) (meets_getattribute_miss_list a xs k i "keys" _ Mh ξ (by size_fits)) ⟨hx,j,fun h' b e hx'=>?_⟩)|wp_step))
 obtain⟨t',l,he⟩:=hx'.there;show wpAny _ _ (getattributeRaised _ _ _ _ _ _ _) _ _ _;unfold getattributeRaised
 repeat(any_goals(first|assumption|wp_step))
 exact h _ _ _ hx'.of
def s_:entryFor table "dict.update.loop"=some Builtin.«dict.update.loop»:=entryFor_of_tree (by kernel_rfl)
def jA:plainId "dict.update.loop"=true:=δ
abbrev lp(D I:Addr)(i:Int):Code:=.builtin "dict.update.loop" ⟨[.ref D,.ref I,rawInt i,.none],[]⟩
variable{K:Type}[DecidableEq K]{knd:KeyKind prog w K}
abbrev Pr(K:Type):Type:=Addr×List K×Addr×Value
def Good(knd:KeyKind prog w K)(h:Heap)(x:Pr K):Prop:=h.IsTuple x.1 #[.ref x.2.2.1,x.2.2.2]/\AI knd h x.2.1 x.2.2.1
def o9(xs:List (List K×Addr×Value))(ts:List (Pr K)):List (List K×Addr×Value):=ts.foldl (fun acc x=>storedH acc x.2.1 x.2.2.1 x.2.2.2) xs
def FX{h h':Heap}{x:Pr K}{D I:Addr}{o:Obj}(g:Good knd h x)(w:∃o,h.get? D=some o/\o.cls=.type "dict")(y:∃o,h.get? I=some o/\o.cls=.type "list_iterator")(i:∀b o,b≠D->b≠I->h.get? b=some o->h'.get? b=some o):Good knd h' x:=by
 obtain⟨⟨j,e1,e,l⟩,p,it,n,e2,f,q⟩:=g;obtain⟨A,r,s⟩:=w;obtain⟨C,u,v⟩:=y;have ne:∀{a:Addr}{d:Obj},h.get? a=some d->d.cls=.type "tuple"->a≠D/\a≠I:=fun{a d} c ca=>by
  refine⟨fun z=>?_,fun z=>?_⟩
  ·rw[z,r] at c
   rw[<-An c,s] at ca;exact absurd ca ξ
  ·rw[z,u] at c
   rw[<-An c,v] at ca;exact absurd ca ξ
 exact⟨⟨j,i _ _ (ne e1 e).1 (ne e1 e).2 e1,e,l⟩,p,it,n,i _ _ (ne e2 f).1 (ne e2 f).2 e2,f,q⟩
def FY{h h':Heap}{D I:Addr}{xs:List (List K×Addr×Value)}(d:h.DictOfH (tupleKind knd) D xs)(c:D≠I)(r:∃o,h.get? I=some o/\o.cls=.type "list_iterator")(e:∀b o,b≠I->h.get? b=some o->h'.get? b=some o):h'.DictOfH (tupleKind knd) D xs:=by
 obtain⟨o,es,ep,f,hc,hd,he,g,i⟩:=d;obtain⟨s,j,l⟩:=r;refine⟨o,es,ep,e _ _ c f,hc,hd,he,fun x hx=>?_,i⟩;obtain⟨p,it,n,e2,a,q⟩:=g x hx;refine⟨p,it,n,e _ _ (fun z=>?_) e2,a,q⟩;rw[z,j] at e2;rw[<-An e2,l] at a;exact absurd a ξ
def pair_items{t:Addr}{b:Array Value}{Q:List Value->Shared->Prop}(c:s.heap.IsTuple t b)(h:Q b.toList s):wpAny (model prog w) A (Builtin.Dict.pairItems (.ref t)) Q E s:=by
 obtain⟨o,a,hc,n,hd⟩:=c;unfold Builtin.Dict.pairItems;refine Aa (wpAny_typeOf (show s.TypeIs (.ref t) "tuple" from⟨o,a,hc⟩) ?_);rw[if_pos ξ];exact Aa (wpAny_seqItems a hd (Ac h))
def Mi(xs:List (List K×Addr×Value))(k:List K)(a:Addr)(v:Value):(storedH xs k a v).length<=xs.length+1:=by
 unfold storedH;split
 ·rw[Ab];omega
 ·rw[As];simp
def o_{D I L:Addr}{ts:List (Pr K)}{R:Result->Shared->Prop}(u:A.handled=none)(hu:A.units+1<cLine)(p:D≠I)(F:L≠D)(y:L≠I):∀(k j:Nat)(s:Shared)(xs:List (List K×Addr×Value)),ts.length-j=k->j<=ts.length->s.heap.IsListIter I L j->s.heap.IsList L (ts.map fun x=>Value.ref x.1).toArray->(∀x∈ts,Good knd s.heap x)->
   s.heap.DictOfH (tupleKind knd) D xs->xs.length+k<=sizeLine->
   (∀h' tk,h'.DictOfH (tupleKind knd) D (o9 xs (ts.drop j))->(∀b o,b≠D->b≠I->s.heap.get? b=some o->h'.get? b=some o)->R (.ok (.ret .none)) {s with heap:=h',toks:=tk})->
   codeAny (model prog w) A (lp D I j) R s
 |0,j,s,xs,hk,hj,ao,hl,hg,hd,hz,hQ=>by
  have Q:j=ts.length:=ω
  subst Q;have W:=Walks.list (prog:=prog) (w:=w) (A:=A.in1) u I L y (ts.map fun x=>Value.ref x.1).toArray;refine AW s_ ?_;rw[A4 jA _];unfold Builtin.«dict.update.loop»;dsimp only[rawInt];refine Aa (W.done s _ _ ⟨by simpa using ao,hl⟩ fun h' tk d=>?_);dsimp only;unfold Builtin.Dict.addKeywords;refine Aa (Bi (a:=()) rfl ?_);obtain⟨c,f,g,_⟩:=ao;refine Ac (hQ h' tk ?_ fun b o _ hb e=>d b o (by simpa using hb) e);rw[List.drop_length];exact FY hd p ⟨c,f,g⟩ fun b o hb e=>d b o (by simpa using hb) e
 |k+1,j,s,xs,hk,hj,ao,hl,hg,hd,hz,hQ=>by
  have W:=Walks.list (prog:=prog) (w:=w) (A:=A.in1) u I L y (ts.map fun x=>Value.ref x.1).toArray;have h:j<ts.length:=ω
  refine AW s_ ?_;rw[A4 jA _];unfold Builtin.«dict.update.loop»;dsimp only[rawInt];refine Aa (W.item j s _ _ (by simpa using h) ⟨ao,hl⟩ fun v h1 tk G z d=>?_);have S:v=.ref (ts[j]).1:=by
   have:(ts.map fun x=>Value.ref x.1).toArray[j]?=some (Value.ref (ts[j]).1):=by simp[h]
   exact An (G.symm.trans this)
  subst S;have X:=hg ts[j] (A9 h);obtain⟨c,f,g,_⟩:=id ao;have C:∃o,s.heap.get? D=some o/\o.cls=.type "dict":=by
   obtain⟨o,es,ep,N,hc,_⟩:=hd;exact⟨o,N,hc.1⟩
  have i:∀b o,b≠D->b≠I->s.heap.get? b=some o->h1.get? b=some o:=fun b o _ hb e=>d b o (by simpa using hb) e;have T:∀x∈ts,Good knd h1 x:=fun x hx=>FX (o:=c) (hg x hx) C ⟨c,f,g⟩ i;have U:h1.DictOfH (tupleKind knd) D xs:=FY hd p ⟨c,f,g⟩ fun b o hb e=>d b o (by simpa using hb) e;obtain⟨O,P⟩:=T ts[j] (A9 h);dsimp only;refine Aa (AA (Aa (wpAny_tryCatch (pair_items (s:={s with heap:=h1,toks:=tk}) O ?_))));dsimp only;refine AA (wpAny_dictSet_heap (knd:=tupleKind knd) (s:={s with heap:=h1,toks:=tk}) (hsz:=by omega) (tupleKind_room_in1 hu) P U fun h2 H q=>?_);have E:∀b o,b≠D->b≠I->s.heap.get? b=some o->h2.get? b=some o:=fun b o hb hi e=>by rw[q.2 b hb];exact i b o hb hi e
  have l:h2.IsListIter I L (j+1):=z.1.at fun o e=>by rw[q.2 I (Ne.symm p)];exact e
  have r:h2.IsList L (ts.map fun x=>Value.ref x.1).toArray:=z.2.at fun o e=>by rw[q.2 L F];exact e
  refine Ac ⟨plainId_quiet jA _,?_⟩;refine o_ u hu p F y k (j+1) {s with heap:=h2,toks:=_} _ ω ω l r (fun x hx=>FX (o:=c) (hg x hx) C ⟨c,f,g⟩ E) H (by have:=Mi xs (ts[j]).2.1 (ts[j]).2.2.1 (ts[j]).2.2.2;omega) fun h' J M k3=>hQ h' J ?_ fun b o hb hi e=>k3 b o hb hi (E b o hb hi e);rw[List.drop_eq_getElem_cons h];exact M
end
end DPr
end
section
namespace DPr
open PySem PyProof.Rows DCp
section
variable{prog:Program}{w:World}{A:Around}{E:Ω}{s:Shared}{K:Type}[DecidableEq K]{knd:KeyKind prog w K}
def Co{L:Addr}{o:Obj}{n:Nat}{ts:List (Pr K)}{Q:Ω}(G:A.handled=none)(hu:A.units+2<cLine)(H:s.heap.get? L=some o)(hc:o.cls=.type "list")(J:o.data=.seq (ts.map fun x=>Value.ref x.1).toArray n)(W:o.dict=none)(X:∀x∈ts,Good knd s.heap x)(hz:ts.length<=sizeLine)(h:∀h' tk,h'.DictOfH (tupleKind knd) s⁻¹ (o9 [] ts)->(∀b o,b<s⁻¹->s.heap.get? b=some o->h'.get? b=some o)->Q (.ref s⁻¹) {s with heap:=h',toks:=tk}):wpAny (model prog w) A (call (.type "dict") [.ref L]) Q E s:=by
 obtain⟨c,tl,Y⟩:=zm.mro;have Z:=zm.made;have aB:=zm.sub;refine wpAny_call (codeAny_of_tree ?_);show wpAny _ _ (callAny (.type "dict") _) _ _ _;refine Ac ⟨Code.quiet_builtin _ δ,AW F.entry_type_call ?_⟩;rw[Around.under_plain (weight_type_call_type "dict" [.ref L] []) rfl];have h1:=zm.notType;have h2:=zm.canCreate;have ja:=B6 (.ref L)
 repeat(any_goals(first|assumption|wp_step))
 refine Bc (B7 (.ref L) (E:=E) (Q₁:=fun obj j=>obj=.ref s⁻¹/\j={s with heap:=s.heap.push {cls:=.type "dict",data:=.dict #[]}}) ⟨rfl,rfl⟩) fun r j hr=>?_;cases r with
 |error e=>exact hr
 |ok fl=>
  cases fl with
  |ret obj=>
   obtain⟨rfl,rfl⟩:=hr;have u:(s.heap.push {cls:=.type "dict",data:=.dict #[]}).get? s⁻¹=some {cls:=.type "dict",data:=.dict #[]}:=Al _ rfl;have v:Shared.TypeIs {s with heap:=s.heap.push {cls:=.type "dict",data:=.dict #[]}} (.ref s⁻¹) "dict":=⟨_,u,rfl⟩;have jZ:=zm.init.lookup;have jt:=zm.init.bind (.ref s⁻¹)
   repeat(any_goals(first|assumption|wp_step))
   refine Bc (codeAny_call_builtin (R:=wants (fun r l=>r=.none/\∃h' tk,l={s with heap:=h',toks:=tk}/\h'.DictOfH (tupleKind knd) s⁻¹ (o9 [] ts)/\
     (∀b o,b<s⁻¹->s.heap.get? b=some o->h'.get? b=some o)) E) zm.init.plain F.entry_dict_init (zm.init.check _ _ _ _ _ _ _ _ v (F.args_dict_init_2 _ _) ?_)) fun M l d=>?_
   ·have y:L<s⁻¹:=Ak H
    have a:(s.heap.push {cls:=.type "dict",data:=.dict #[]}).get? L=some o:=Ad _ H;have U:Shared.TypeIs {s with heap:=s.heap.push {cls:=.type "dict",data:=.dict #[]}} (.ref L) "list":=⟨o,a,hc⟩;unfold Builtin.«dict.__init__»;refine Aa ?_;unfold Builtin.Dict.selfAndRest;refine Aa (wpAny_notOrdered_dict v ?_);refine Aa (show wpAny _ _ (pure s⁻¹) _ _ _ from Ac ?_);refine Ac ?_;show wpAny _ _ (Builtin.Dict.updateCommon "dict.__init__" "dict" s⁻¹ [Value.ref L] []) _ _ _;unfold Builtin.Dict.updateCommon Builtin.Dict.updateFrom;dsimp only;refine Aa (wpAny_typeOf U ?_);rw[if_pos ξ];refine Aa (FW (s:={s with heap:=s.heap.push {cls:=.type "dict",data:=.dict #[]}}) a hc J W G fun h2 p e2 x2=>?_);rw[if_pos (by rfl)];refine Aa (wpAny_rule ?_);have z:h2.IsList L (ts.map fun x=>Value.ref x.1).toArray:=⟨o,x2.keeps _ _ a,hc,n,J⟩;refine Aa (wpAny_pyIter_list (s:={s with heap:=h2,toks:=p}) z ?_);have C:h2.get? s⁻¹=some {cls:=.type "dict",data:=.dict #[]}:=x2.keeps _ _ u;have f:s⁻¹<h2.objs.size:=Ak C;have g:∀b ob,h2.get? b=some ob->(h2.push {cls:=.type "list_iterator",data:=.fields #[.ref L,.int 0 0]}).get? b=some ob:=fun b ob e=>Ad _ e;have i:∀b ob,s.heap.get? b=some ob->(h2.push {cls:=.type "list_iterator",data:=.fields #[.ref L,.int 0 0]}).get? b=some ob:=fun b ob e=>g _ _ (x2.keeps _ _ (Ad _ e));refine Ac ⟨plainId_quiet jA _,?_⟩;refine o_ (knd:=knd) (ts:=ts) (L:=L) (D:=s⁻¹) (I:=h2.objs.size) (by exact G) (by first|exact hu|(show A.units+1<cLine;omega)) (Ao f) (Ao y) (Ao (Nat.lt_trans y f)) ts.length 0 {s with heap:=h2.push {cls:=.type "list_iterator",data:=.fields #[.ref L,.int 0 0]},toks:=p} [] ω (AK _)
     ⟨_,Al _ rfl,rfl,rfl⟩ (z.at fun ob e=>g _ _ e) (fun x hx=>?_) ⟨_,#[],0,g _ _ C,⟨rfl,rfl,rfl⟩,rfl,rfl,(fun x hx=>nomatch hx),List.nodup_nil⟩ (by simpa using hz) fun h' q dd k3=>⟨rfl,h',q,rfl,dd,fun b ob hb e=>k3 b ob (Ao hb) (Ao (Nat.lt_trans hb f)) (i _ _ e)⟩
    obtain⟨⟨N,e1,O⟩,P,it,m,e2,S⟩:=X x hx;exact⟨⟨N,i _ _ e1,O⟩,P,it,m,i _ _ e2,S⟩
   ·cases M with
    |error e=>exact d
    |ok fl₂=>
     cases fl₂ with
     |ret r=>
      obtain⟨rfl,h',q,rfl,T,hk'⟩:=d
      repeat(any_goals(first|assumption|wp_step))
      exact h _ _ T hk'
     |_=>exact d.elim
  |_=>exact hr.elim
end
end DPr
namespace L2
open PySem PySem.Spec PyProof.Rows
def ti(kvs:List (List Key×V)):List (List Key×V):=kvs.foldl (fun acc kv=>putK acc kv.1 kv.2) []
section
variable{X:Cx}
def FZ:∀(kvs acc:List (List Key×V)),(kvs.foldl (fun acc kv=>putK acc kv.1 kv.2) acc).length<=acc.length+kvs.length
 |[],acc=>by simp
 |kv::r,acc=>by
  rw[List.foldl_cons];have h1:=FZ r (putK acc kv.1 kv.2);have h2:=qZ acc kv.1 kv.2;rw[Au];omega
def Co(hc:X.calm=true)(hu:X.A.units+64<cLine):zU X (.type "dict") (fun xs H Q=>∃(l:Addr)(ts:List Addr)(kvs:List (List Key×V)),xs=[.ref l]/\SqL X.K H l (ts.map V.ref)/\
  Paired (fun t(kv:List Key×V)=>∃b,H t=some (.tup [.ref b,kv.2])/\H b=some (.tup (kv.1.map kV))) ts kvs/\∀D,H D=none->Q (.ref D) (upd H D (.dT (ti kvs)))):=by
 intro aa s σ H xs us Q I r h;obtain⟨l,ts,kvs,rfl,hq,hp,q⟩:=h;obtain⟨u,rfl,g⟩:=vals1 r;cases g;obtain⟨c,i,⟨o,n,e1,j,p,y⟩,hz⟩:=I.list hq;obtain rfl:=aT i;have T:=A2 hp;have get:∀{ts:List Addr}{kvs:List (List Key×V)},Paired (fun t(kv:List Key×V)=>∃b,H t=some (.tup [.ref b,kv.2])/\H b=some (.tup (kv.1.map kV))) ts kvs->
   ∃ps:List (DPr.Pr Key),ps.map (fun x=>Value.ref x.1)=ts.map Value.ref/\(∀x∈ps,DPr.Good (zt X.prog X.w) s.heap x)/\∀acc(ys:List (List Key×Addr×Value)),KT H acc ys->KT H (kvs.foldl (fun acc kv=>putK acc kv.1 kv.2) acc) (DPr.o9 ys ps):=by
  intro ts kvs z
  induction z with
  |nil=>exact⟨[],rfl,(fun x hx=>nomatch hx),fun acc ys k=>k⟩
  |@cons t kv ts kvs hh t' ih=>
   obtain⟨ps,g1,g2,g3⟩:=ih;obtain⟨b,C,hb⟩:=hh;obtain⟨c,E,F,_⟩:=I.tuple (SqT.of (K:=X.K) C);obtain⟨vs,e2,G⟩:∃v,c=[.ref b,v]/\RelV kv.2 v:=by
    cases E with
    |cons ra rb=>
     cases rb with
     |cons rc rd=>
      cases rd;cases ra;exact⟨_,rfl,rc⟩
   subst e2;refine⟨(t,kv.1,b,vs)::ps,by rw[Ax,Ax,g1],fun x hx=>?_,fun acc ys k=>?_⟩
   ·rcases List.mem_cons.mp hx with rfl|hx
    ·exact⟨F,kX I.hok hb⟩
    ·exact g2 x hx
   ·exact g3 _ _ (k.put kv.1 hb G)
 obtain⟨ps,g1,g2,g3⟩:=get hp;have P:ps.length=kvs.length:=by
  have:=congrArg List.length g1;rw[Ab,Ab] at this;omega
 rw[Ab] at hz;refine DPr.Co (knd:=zt X.prog X.w) (ts:=ps) (n:=n) (I.ok.hd hc) ω e1 j (by rw[g1];exact y) p g2 ω fun h' tk dd f=>?_;have a:=g3 [] [] .nil;have d:H s⁻¹=none:=I.hok.fresh (Ag _);obtain⟨J,es,ep,L,h2,M,N,S,O⟩:=dd;refine⟨.ref s⁻¹,_,I.laid (o:=.dT (ti kvs)) (fun b u e=>f b u (Ak e) e) (Ag _) ⟨?_,?_,DPr.o9 [] ps,a.keeps fun b ys e=>?_,J,es,ep,L,h2,M,N,O⟩,rfl,q _ d⟩
 ·have:=FZ kvs []
  unfold ti;simp at this;omega
 ·exact beq_eq_false_iff_ne.mpr (Nat.ne_of_gt I.big)
 ·rw[zl (zg e d)];exact e
end
end L2
end
section
namespace L2
open PySem PySem.Spec PyProof.Rows
section
variable{X:Cx}
def pf(d:Addr)(o:Obj)(kvs:List (List Key×V)):It:=⟨fun i H=>i<kvs.length/\H d=some (.frz o (.dT kvs)),fun i H v H'=>H'=H/\∃kv b,kvs[i]?=some kv/\v=.ref b/\H b=some (.tup (kv.1.map kV)),fun i H=>i=kvs.length/\H d=some (.frz o (.dT kvs))⟩
def kt_at{H:Hp}:∀{l:List (List Key×V)}{m:List (List Key×Addr×Value)}{i:Nat}{kv:List Key×V},KT H l m->l[i]?=some kv->∃w,m[i]?=some w/\H w.2.1=some (.tup (kv.1.map kV))
 |_,_,0,_,.cons h _,e=>by cases e;exact⟨_,rfl,h.2.1⟩
 |_,_,i+1,_,.cons _ t,e=>kt_at (i:=i) t (by simpa using e)
def Mj{P:Program}{w:World}{K:Ae}{tg:Expr}(d it:Addr){o:Obj}{kvs:List (List Key×V)}{es:Array DictEntry}{ep:Nat}(hx:o.ExactDict)(r:o.data=.dict es ep)(hsz:es.size=kvs.length):Turn P w K tg (pf d o kvs) [it] it (fun i h=>h.IsKeyIter it d i es.size ep) where
 mem:=by simp
 obj:=fun i h st b hb=>by
  have e:b=it:=by simpa using hb
  subst e;obtain⟨o,e,c,dd⟩:=st;exact⟨o,e,fun v z=>by rw[dd] at z;cases z⟩
 keep:=fun i h h' st k=>by
  obtain⟨o,e,c⟩:=st;exact⟨o,k it (by simp) o e,c⟩
 item:=by
  intro X f hw g hc i aa s σ H E I hf st j;subst f hw g;obtain⟨f0,f1,f2,f3,f4,f5⟩:=hf it (by simp);obtain⟨hi,l⟩:=j;obtain⟨x,z,hs,ys,p,o',es',O,h1,h2,G,J,S⟩:=(show zB X.prog X.w H s.heap d (.frz o (.dT kvs)) from I.hok d _ l);obtain rfl:o=o':=An (x.symm.trans h1);have q:=r.symm.trans G;injection q with q hep
  subst q;have hm:Dk.IsD s.heap d es ep:=⟨o,x,hx,r⟩;have a:i<es.size:=by rw[hsz];exact hi
  refine Dk.item st hm a fun h' u D=>?_;have N:Inv X aa σ H {s with heap:=h'}:=I.turned (t':=s.toks) (fun b o hb e=>(D.2 b hb).trans e) f0 f1 f3 f4 f5;obtain⟨T,e1,e2,e3⟩:=id u;have C:kvs[i]?=some kvs[i]:=Af hi;obtain⟨y,L,hb⟩:=kt_at p C;have g3:es.toList[i]?=some es[i]:=by simp[a]
  rw[J,Ai,L] at g3;simp only[A6,Bd] at g3;have M:es[i].key=.ref y.2.1:=by rw[<-g3];rfl
  exact⟨_,rfl,jN (s:={s with heap:=h'}) e1 e2 e3 ξ ⟨.ref y.2.1,H,N,by rw[M];rfl,⟨rfl,_,_,C,rfl,hb⟩,u,fun b hb=>(hf b hb).1⟩⟩
 done:=by
  intro X f hw g hc i aa s σ H E I hf st j;subst f hw g;obtain⟨f0,f1,f2,f3,f4,f5⟩:=hf it (by simp);obtain⟨hi,l⟩:=j;have hm:Dk.IsD s.heap d es ep:=⟨o,(show zB X.prog X.w H s.heap d (.frz o (.dT kvs)) from I.hok d _ l).1,hx,r⟩;have a:i=es.size:=by rw[hsz];exact hi
  subst a;exact Dk.done (I.ok.hd hc) st hm fun h' F=>⟨rfl,I.turned (t':=s.toks) (fun b o hb e=>F b o hb e) f0 f1 f3 f4 f5⟩
 self:=fun A i s Q E st h=>wpAny_pyIter_keyiter st h
def Ml(te:TE):TI:=fun σ H R=>te σ H fun x H1=>∃d kvs,x=.ref d/\Rd H1 d (.dT kvs)/\∀o H2,H2 d=some (.frz o (.dT kvs))->(∀b,b≠d->H2 b=H1 b)->R (pf d o kvs) H2
def F0{tg l:Expr}{tl:TE}(E:PE X l tl):PI X tg l (Ml tl):=by
 intro aa s σ H R I h;refine aL (E aa s σ H _ I h) fun v a ⟨x,H1,I1,r,u⟩=>?_;obtain⟨d,kvs,e,hd,q⟩:=u;subst e;cases r;have go:∀(o:Obj)(H2:Hp),Inv X aa σ H2 a->H2 d=some (.frz o (.dT kvs))->(∀b,b≠d->H2 b=H1 b)->wpAny (model X.prog X.w) X.A (pyIter (.ref d)) (qm X aa σ tg R) X.xe a:=by
  intro o H2 I2 j y;obtain⟨D,z,hs,ys,c,o',es,ep,h1,h2,f,i,p⟩:=(show zB X.prog X.w H2 a.heap d (.frz o (.dT kvs)) from I2.hok d _ j);obtain rfl:o=o':=An (D.symm.trans h1);have hsz:es.size=kvs.length:=by
   have:=congrArg List.length i;rw[Ab,<-A2 c] at this
   simpa using this
  have hm:Dk.IsD a.heap d es ep:=⟨o,h1,h2,f⟩;refine Dk.iter hs hm ?_;have hfr:H2 a⁻¹=none:=I2.hok.fresh (Ag _);refine⟨a⁻¹,[a⁻¹],_,_,_,rfl,I2.kept (t':=a.toks) fun b o e=>Ad _ e,Mj d _ h2 f hsz,⟨_,Al _ rfl,rfl,rfl⟩,fun b hb=>?_,q o H2 j y⟩;have e:b=a⁻¹:=by simpa using hb
  subst e;exact I2.fpOk (Ag _) hfr
 rcases hd with hd|⟨o,hd⟩
 ·obtain⟨z,hs,ys,c,o,es,ep,h1,h2,f,i,p⟩:=(show zB X.prog X.w H1 a.heap d (.dT kvs) from I1.hok d _ hd)
  have g:KT (upd H1 d (.frz o (.dT kvs))) kvs ys:=KT.keeps c fun b zs e=>by rw[zl (fun C=>by rw[C,hd] at e;cases e)];exact e
  exact go o (upd H1 d (.frz o (.dT kvs))) (nz (ob:=.frz o (.dT kvs)) (t':=a.toks) I1 (by rw[hd];exact True.intro) (Heap.SameBut.refl _ _) ⟨o,h1⟩ ⟨h1,z,hs,ys,g,o,es,ep,h1,h2,f,i,p⟩) ai fun b hb=>zl hb
 ·exact go o H1 I1 hd fun _ _=>rfl
def F5{d:Addr}{o:Obj}{kvs:List (List Key×V)}{g:TG}{tb:TS}{D:Ends}{σ:St}{H:Hp}(a:Nat->St->Hp->Prop)(s:a 0 σ H)(u:∀i σ H,i<=kvs.length->a i σ H->H d=some (.frz o (.dT kvs)))(hs:∀i kv b σ H,kvs[i]?=some kv->H b=some (.tup (kv.1.map kV))->a i σ H->g (.ref b) σ H fun f H2=>tb {D with nx:=a (i+1),ct:=a (i+1),bk:=D.nx} f H2)(hd:∀σ H,a kvs.length σ H->D.nx σ H):∃W:Nat->Nat->St->Hp->Prop,(∃m,W 0 m σ H)/\∀i m σ H,W i m σ H->
   ((pf d o kvs).stop i H/\D.nx σ H)\/((pf d o kvs).go i H/\∃N:St->Hp->Prop,(∀h H',N h H'->∃j,j<m/\W (i+1) j h H')/\∀x H',(pf d o kvs).yld i H x H'->g x σ H' fun f H2=>tb {D with nx:=N,ct:=N,bk:=D.nx} f H2):=by
 refine⟨fun i m σ H=>m=kvs.length-i/\i<=kvs.length/\a i σ H,⟨kvs.length,by simp,AK _,s⟩,?_⟩;rintro i m σ H ⟨rfl,hi,p⟩;have q:=u i σ H hi p
 by_cases c:i<kvs.length
 ·refine .inr ⟨⟨c,q⟩,a (i+1),fun h H' l=>⟨kvs.length-(i+1),ω,rfl,c,l⟩,fun x H' y=>?_⟩
  obtain⟨e,kv,b,r,rfl,hb⟩:=y;subst e;exact hs i kv b σ _ r hb p
 ·have:i=kvs.length:=ω
  subst this;exact .inl ⟨⟨rfl,q⟩,hd σ H p⟩
end
end L2
end
section
namespace L2
open PySem PySem.Spec PyProof.Rows
def Rd.same{H H':Hp}{a:Addr}{u:HO}(r:Rd H a u)(s:Same H H'):Rd H' a u:=by
 rcases r with r|⟨o,r⟩
 ·exact .inl (s _ _ r)
 ·exact .inr ⟨o,s _ _ r⟩
section
variable{X:Cx}{o:Expr}{to:TE}{aS ay:Pos}
def Mm(to:TE):TE:=fun σ H Q=>to σ H fun x H1=>zlB x [] H1 Q
def Mn(i:PE X o to)(j:attributeBase o "values" X.env (eval o X.env)=eval o X.env:=by rfl)(l:(aS.endLine==ay.line)=true:=by rfl):PE X (.Call (.Attribute o "values" aS) [] [] ay) (Mm to):=by
 intro aa s σ H Q I h;refine wpAny_Call_method0_late j l (aL (i aa s σ H _ I h) fun v b ⟨x,H1,I1,f,c⟩=>?_);have g:=c;obtain⟨d,kvs,rfl,_,hd,_⟩:=c;cases f;obtain⟨_,_,_,_,ob,_,_,e,ex,_⟩:=(show zB X.prog X.w H1 b.heap d (.dT kvs) from hd.ok I1.hok);exact⟨"dict","dict.values",PySem.F.plainAttrs_dict,PySem.F.slot_dict_values,PySem.F.type_dict_values,⟨ob,e,ex.1⟩,(fun a z=>by cases z;exact⟨ob,e,ex.2.1⟩),Calls.callWith_builtin rfl (PySem.evalArgs_none (gK aa b σ H1 (.ref d) [] (.ref d) [] Q I1 rfl .nil g))⟩
end
end L2
end
section
namespace K56
open K1
open PySem L2 STb
abbrev tt:Stmt:=top 28
abbrev iR:Stmt:=top 29
abbrev Ch:Type:=List (List Int×Int)
def ksC(cs:Ch):Ξ:=cs.map (·.1)
def aK(cs:Ch):List (List Key×V):=cs.map fun c=>((c.1.map Sum.inl:List Key),V.int c.2)
def bS(cs:Ch)(ps:List Int)(n:Int):Ch:=if ps∈ksC cs then cs.map (fun c=>if c.1=ps then(c.1,n) else c) else cs++[(ps,n)]
def iT(cs:Ch):(aK cs).length=cs.length:=Ab _
def kh(cs:Ch):(ksC cs).length=cs.length:=Ab _
def lF(cs:Ch):(aK cs).map (·.1)=(ksC cs).map (·.map Sum.inl):=by unfold aK ksC;rw[At,At];rfl
def Cu(cs:Ch):(aK cs).map (·.2)=(cs.map (·.2)).map V.int:=by unfold aK;rw[At,At];rfl
def cw(cs:Ch)(ps:List Int)(n:Int):putK (aK cs) (ps.map Sum.inl) (.int n)=aK (bS cs ps n):=by
 unfold putK aK bS;have a:((cs.map fun c=>((c.1.map Sum.inl:List Key),V.int c.2)).any fun kv=>decide (kv.1=ps.map Sum.inl))=decide (ps∈ksC cs):=by
  rw[List.any_map]
  by_cases h:ps∈ksC cs
  ·rw[decide_eq_true h,List.any_eq_true]
   obtain⟨c,hc,e⟩:=List.mem_map.mp h;exact⟨c,hc,decide_eq_true (hX.mpr e)⟩
  ·rw[decide_eq_false h,List.any_eq_false]
   intro c hc;simp only[Function.comp,decide_eq_true_eq,hX];rintro rfl;exact h (List.mem_map.mpr ⟨c,hc,rfl⟩)
 rw[a]
 by_cases h:ps∈ksC cs
 ·rw[decide_eq_true h,if_pos rfl,if_pos h,At,At]
  refine A7 fun c hc=>?_;simp only[Function.comp]
  by_cases e:c.1=ps
  ·rw[if_pos e,if_pos (hX.mpr e)]
  ·rw[if_neg e,if_neg (fun z=>e (hX.mp z))]
 ·rw[decide_eq_false h,if_neg (by simp),if_neg h,Am]
  rfl
def F8(cs:Ch)(ps:List Int)(n:Int):ksC (bS cs ps n)=if ps∈ksC cs then ksC cs else ksC cs++[ps]:=by
 unfold bS
 by_cases h:ps∈ksC cs
 ·rw[if_pos h,if_pos h]
  unfold ksC;rw[At];refine A7 fun c _=>?_;simp only[Function.comp];split<;>rfl
 ·rw[if_neg h,if_neg h]
  unfold ksC;rw[Am]
  rfl
def c6{cs:Ch}(ps:List Int)(n:Int)(h:(ksC cs).Nodup):(ksC (bS cs ps n)).Nodup:=by
 rw[F8]
 by_cases e:ps∈ksC cs
 ·rw[if_pos e];exact h
 ·rw[if_neg e,List.nodup_append]
  refine⟨h,by simp,fun a c b hb z=>?_⟩;rw[Bh] at hb;subst hb;subst z;exact e c
def putC_mem{cs:Ch}{ps q:List Int}{n:Int}(h:q∈ksC (bS cs ps n)):q∈ksC cs\/q=ps:=by
 rw[F8] at h
 by_cases e:ps∈ksC cs
 ·rw[if_pos e] at h;exact .inl h
 ·rw[if_neg e] at h
  rcases List.mem_append.mp h with h|h
  ·exact .inl h
  ·exact .inr (List.mem_singleton.mp h)
def F_(cs:Ch)(ps:List Int)(n:Int):(bS cs ps n).length<=cs.length+1:=by
 unfold bS;split
 ·rw[Ab];omega
 ·rw[As];simp
def lG:∀{cs:Ch},(ksC cs).Nodup->∀c∈cs,bv (aK cs) (c.1.map Sum.inl)=some (.int c.2)
 |[],_,c,hc=>absurd hc (by simp)
 |d::cs,h,c,hc=>by
  have h':(d.1::ksC cs).Nodup:=h;rw[List.nodup_cons] at h';unfold bv aK;rw[Ax,List.find?_cons];rcases List.mem_cons.mp hc with rfl|hc
  ·rw[decide_eq_true rfl];rfl
  ·have a:¬d.1.map Sum.inl=(c.1.map Sum.inl:List Key):=fun z=>h'.1 (by rw[hX.mp z];exact List.mem_map.mpr ⟨c,hc,rfl⟩)
   rw[decide_eq_false a];exact lG h'.2 c hc
def tw{H:Hp}{cs:Ch}{bs:List Addr}(h:Paired (fun(p:List Key×V) b=>H b=some (.tup (p.1.map kV))) (aK cs) bs):Tps H bs (ksC cs):=by
 unfold aK at h;unfold ksC
 induction cs generalizing bs with
 |nil=>cases h;exact .nil
 |cons x l ih=>
  rw[Ax] at h;cases h with
  |cons r t=>
   refine .cons ?_ (ih t);show H _=_;rw[r,At]
   rfl
def gP(a:Ξ):Bool:=decide (((dd (dM a)).length:Int)<=1)
abbrev dw(c:List Int×Int):Bool:=!decide (V.int c.2=V.int 0)
def fU(a:Ξ)(cs:Ch):Bool:=decide (∀k∈ksC cs,k∈a)&&(gP (ksC cs)&&(cs.map dw).all id)
abbrev F'(K:Ae):List V->Hp->VK->Prop:=fun xs H Q=>∃p ys,xs=[.ref p]/\(SqL K H p ys\/SqT K H p ys)/\Q (.int ys.length) H
abbrev Gc(K:Ae):TE:=eQ (F' K) (zJ (ax 0) a8)
section
variable{P:Program}{w:World}{K:Ae}{mg:Str->Option Value}{base:Heap}
def Mo{H2:Hp}{L D:Addr}{as:List Addr}{d:Ξ}{Q:VK}(q:SqL K H2 L (as.map V.ref))(e:Tps H2 as d)(hz:d.length<=1000)(f:H2 D=none)(k:∀b,Same H2 b->b D=some (.lst ((dM d).map V.int))->Q (.ref D) b):cG (dv K L) (cA 0) ci (Gc K) [none] H2 D Q:=by
 have i:=e.length;refine zG (xs:=as.map V.ref) (fun j σ ys b=>∃v:Option V,σ=[v]/\Same H2 b/\b D=some (.lst ys)/\ys=(dM (d.take j)).map V.int) ?_ ?_ ?_ ?_
 ·exact⟨none,rfl,Same.new f,ai,rfl⟩
 ·rintro j σ ys b ⟨v,rfl,c,a,rfl⟩
  exact c.seq q
 ·rintro j σ ys b x hx g hy ⟨v,rfl,c,a,rfl⟩
  obtain⟨o,h,rfl⟩:=zR hx;obtain⟨p,ep,hp⟩:=e.get h;have l:(as.map V.ref).length<=sizeLine:=by rw[Ab];exact zf ω
  refine cJ ?_;refine⟨_,rfl,o,_,rfl,.inr (SqT.of (c.tp hp)),a9 l g hy a ⟨_,rfl,c.then f,ai,?_⟩⟩;unfold dM;rw[AM ep,Am,Am,Ab]
  rfl
 ·rintro σ ys b ⟨v,rfl,c,a,rfl⟩
  rw[Ab,i,Az (Ag _)] at a;exact k b c a
def Mp(a:Ξ):(dM a).length=a.length:=Ab _
def Gd(K:Ae):Sp:=fun vs H Q _=>∃l as a,vs=[.ref l]/\SqL K H l (as.map V.ref)/\Tps H as a/\a.length<1000/\∀H',Same H H'->Q (.bl (gP a)) H'
def Mq:zn ["some"] ["some"] (zb iR):=⟨rfl,rfl,rfl,δ,rfl,δ,δ⟩
def Mr{f:Addr}{fd:FuncData}(F:Fun K "is_of_one_height" "is_of_one_height" iR f fd)(B:Bt mg):FnOk P w K mg base aw 1 f fd ["some"] (Gd K):=by
 refine F.ok Mq (fun vs H Q E h=>?_) (fun cdv A outer s H vs Q E hr h=>?_)
 ·obtain⟨l,as,c,rfl,_⟩:=h;rfl
 ·obtain⟨l,as,c,rfl,d,o,hz,k⟩:=h
  refine⟨_,zd (zr (hG qD (zh Mc rfl B.len zM (ac (zj (Mb rfl) rfl B.set ia (ac
   (zw ["some"] ["piece"] [none] (zA (pv 0)) (fun b C s₀ H₀ ex=>zk (i:=0) (bR ["piece"]) rfl (Or.inl rfl)) (fun b C s₀ H₀ ex=>zH) (fun b C s₀ H₀ ex=>zh zi rfl B.len zM (ac (pv 0) al)) (hfr:=bN δ) (te:=Gc K)) al)) al)) ze (aq _))),?_⟩
  refine⟨_,rfl,l,rfl,⟨_,d⟩,fun D e=>zy (Mo d o ω e fun q g a=>⟨D,dM c,rfl,SqL.of a,by rw[Mp];exact hz,fun S p j=>⟨S,p,_,rfl,ai,_,_,rfl,rfl,k _ (g.trans (Same.new j))⟩⟩)⟩
end
end K56
end
section
namespace K56
open K1
open PySem L2 STb
def ph(xs:List V)(i:Nat)(h:i<=xs.length):br xs none (some (i:Int))=xs.take i:=by
 unfold br;rw[HT.qO,HT.nj,Nat.min_eq_left h,List.drop_zero,Nat.sub_zero]
def ki(xs:List V)(i:Nat)(h:i<=xs.length):br xs (some (i:Int)) none=xs.drop i:=by
 unfold br;rw[HT.qO,HT.nj,Nat.min_eq_left h];exact Az (by rw[List.length_drop];exact Ag _)
end K56
end
section
namespace K56
open K1
open PySem L2 STb
abbrev Cv:Stmt:=top 30
def zx.frz{d:Addr}{H H1 H2 f:Hp}(a:Same H H1)(b:∀c,c≠d->H2 c=H1 c)(e:Same H2 f):zx d H f:=fun c u hc h=>e _ _ (by rw[b c hc];exact a _ _ h)
section
variable{P:Program}{w:World}{K:Ae}{mg:Str->Option Value}{base:Heap}
def Ms{H2:Hp}{d D:Addr}{o:Obj}{cs:Ch}{Q:VK}(hd:H2 d=some (.frz o (.dT (aK cs))))(hz:cs.length<=1000)(h:H2 D=none)(k:∀b,Same H2 b->b D=some (.lst ((cs.map dw).map V.bl))->Q (.ref D) b):cG (B3 d o (aK cs)) (cA 0) ci (cb qC (ax 0) (tC (.int 0))) [none] H2 D Q:=by
 refine jr cs.length (fun j σ ys b=>∃v:Option V,σ=[v]/\Same H2 b/\b D=some (.lst ys)/\ys=((cs.map dw).take j).map V.bl) ?_ ?_ ?_ ?_ ?_
 ·exact⟨none,rfl,Same.new h,ai,rfl⟩
 ·rintro σ ys b ⟨v,rfl,c,a,rfl⟩
  exact⟨(iT cs).symm,c _ _ hd⟩
 ·rintro i σ ys b hi ⟨v,rfl,c,a,rfl⟩
  exact⟨by rw[iT];exact hi,c _ _ hd⟩
 ·rintro i σ ys b x H' hi hy ⟨v,rfl,c,a,rfl⟩ ⟨rfl,kv,f,rfl⟩
  have g:cs[i]?=some cs[i]:=Af hi;have e:(cs.map dw)[i]?=some (dw cs[i]):=by rw[Ai,g];rfl
  obtain rfl:(((cs[i]).1.map Sum.inl:List Key),V.int (cs[i]).2)=kv:=by
   unfold aK at f;rw[Ai,g] at f;exact An f
  refine cJ ?_;exact⟨_,rfl,rfl,a9 (zf ω) hi hy a ⟨_,rfl,c.then h,ai,by rw[AM e,Am];rfl⟩⟩
 ·rintro σ ys b ⟨v,rfl,c,a,rfl⟩
  rw[Az (by rw[Ab];exact Ag _)] at a;exact k b c a
def Ge(K:Ae):Sp:=fun vs H Q _=>∃l d as pss cs,vs=[.ref l,.ref d]/\SqL K H l (as.map V.ref)/\Tps H as pss/\b0 pss/\(canon pss).length<=59/\Rd H d (.dT (aK cs))/\cs.length<=(canon pss).length+1/\cs.length<=59/\
 ∀H',zx d H H'->Rd H' d (.dT (aK cs))->Q (.bl (fU (canon pss) cs)) H'
def Gf:zn ["web","chain","every"] ["web","chain"] (zb tt):=⟨rfl,rfl,rfl,δ,rfl,δ,δ⟩
def Mt{f fp J:Addr}{fd M N:FuncData}(F:Fun K "is_chain" "is_chain" tt f fd)(B:Bt mg)(Fp:Fun K "pieces" "pieces" o8 fp M)(bp:Binds K M ["web"] [])(mp:mg "pieces"=some (.ref fp))(Gp:FnOk P w K mg base aw 8 fp M ["web"] (sN K))(Fo:Fun K "is_of_one_height" "is_of_one_height" iR J N)(bo:Binds K N ["some"] [])(mo:mg "is_of_one_height"=some (.ref J))(Go:FnOk P w K mg base aw 1 J N ["some"] (Gd K)):FnOk P w K mg base aw 9 f fd ["web","chain"] (Ge K):=by
 refine F.ok Gf (fun vs H Q E h=>?_) (fun cdv A outer s H vs Q E hr h=>?_)
 ·obtain⟨l,d,as,pss,cs,rfl,_⟩:=h;rfl
 ·obtain⟨l,d,as,pss,cs,rfl,hl,ht,hw,u,hd,qF,cP,k⟩:=h
  have hu:=dr hr;have v:=hr.units;have y:Room 1 _:=hr.mono ξ;refine⟨_,za (zp (i:=2) Gf.nd rfl (Or.inl rfl) (zq Gp hr rfl mp Fp.kp bp .nil am (ac (pv 0) al)))
   (za (zN (zo ix (zh Lc rfl B.len zM (ac (zD (Lb v) (zj (Ld v) rfl B.set ia (ac (pv 1) al)) (zj (La rfl v) rfl B.set ia (ac (pv 2) al))) al)) ze (aq _)) (zd (zr dc)) zv)
   (za (zN (eL (fg (zq Go y rfl mo Fo.kp bo .nil am (ac (zj (r9 rfl) rfl B.list eY (ac (pv 1) al)) al)))) (zd (zr dc)) zv)
   (zd (zr (zh (jX rfl) rfl B.all j' (ac
    (zw ["web","chain","every"] ["weight"] [none] (KQ (Mn (pv 1))) (fun O C s₀ H₀ ex=>zk (i:=0) (bR ["weight"]) rfl (Or.inl rfl)) (fun O C s₀ H₀ ex=>zH)
     (fun O C s₀ H₀ ex=>hG jQ (pv 0) ze (aq _)) (hfr:=bN δ) (te:=cb qC (ax 0) (tC (.int 0)))) al)))))),?_⟩
  refine⟨_,rfl,l,as,pss,rfl,hl,ht,hw,fun EV H1 es S BF uD b=>?_⟩;have G:(canon pss).Nodup:=LR pss;have cL:(canon pss).length<=(dd (canon pss)).length:=G.length_le_of_subset fun x hx=>(iP _ x).mpr hx;have hdk:(dd (ksC cs)).length<=cs.length:=by have:=fj (ksC cs);rw[kh] at this;exact this
  refine⟨_,rfl,d,aK cs,ksC cs,rfl,hd.same S,lF cs,by rw[kh];exact cP,fun q tP S1 c=>⟨_,rfl,EV,es,canon pss,rfl,SqL.of (Same.new c _ _ uD),(Same.new c).tps b,u,fun S2 g=>?_⟩⟩;refine⟨S1,S2,_,_,q,_,rfl,rfl,Same.new g _ _ ai,ai,(tP.mono (Same.new c)).mono (Same.new g),(TB.zip ((Same.new c).tps b)).mono (Same.new g),ω,ω,fun j T Z ic=>⟨Z,j,q,rfl,ai,_,_,rfl,rfl,_,rfl,?_⟩⟩;have p:=((S.trans (Same.new (o:=bX P w S1 (dd (ksC cs)) q) c)).trans (Same.new (o:=bX P w S2 (dd (canon pss)) ((canon pss).zip es)) g)).trans (Same.new (o:=bX P w Z j q) ic);refine bc (fun h1=>?_) (fun h1=>?_)
  ·have h2:=of_decide_eq_true h1
   have I:¬∀k∈ksC cs,k∈canon pss:=fun z=>by
    cases j with
    |nil=>simp at h2
    |cons x r=>
     obtain⟨g1,g2⟩:=(T x).mp Av;exact g2 ((iP _ x).mpr (z x ((iP _ x).mp g1)))
   have:=k _ (zx.of p) (hd.same p);rw[show fU (canon pss) cs=false from by unfold fU;rw[decide_eq_false I];rfl] at this;exact this
  ·have a:∀k∈ksC cs,k∈canon pss:=fun x hx=>by
    refine Classical.byContradiction fun hn=>?_;have:x∈j:=(T x).mpr ⟨(iP _ x).mpr hx,fun z=>hn ((iP _ x).mp z)⟩;refine h1 (decide_eq_true ?_);have:=List.length_pos_of_mem this;omega
   refine⟨_,rfl,d,aK cs,rfl,hd.same p,fun bs pb L U=>⟨L,bs,ksC cs,rfl,SqL.of ai,(Same.new U).tps (tw pb),by rw[kh];omega,fun H5 dP=>⟨_,rfl,?_⟩⟩⟩;have e:=(p.trans (Same.new (o:=.lst (bs.map V.ref)) U)).trans dP;cases ho:gP (ksC cs) with
   |false=>
    have:=k H5 (zx.of e) (hd.same e);rw[show fU (canon pss) cs=false from by unfold fU;rw[decide_eq_true a,ho];rfl] at this;exact aX this
   |true=>
    refine aH ?_;refine⟨_,rfl,d,aK cs,rfl,rfl,hd.same e,fun vw W=>⟨vw,d,aK cs,rfl,ai,hd.same (e.trans (Same.new W)),fun o H6 X bK=>fun D hD=>zy (Ms X ω hD fun H7 Y t8=>⟨D,cs.map dw,rfl,SqL.of t8,?_⟩)⟩⟩;have:=k H7 (zx.frz (e.trans (Same.new W)) bK Y) (.inr ⟨o,Y _ _ X⟩);unfold fU at this;rw[decide_eq_true a,ho,Bool.true_and,Bool.true_and] at this;exact this
def Gg(K:Ae):Sp:=fun vs H Q _=>∃l d as pss cs,vs=[.ref l,.ref d]/\SqL K H l (as.map V.ref)/\Tps H as pss/\b0 pss/\(canon pss).length<=59/\Rd H d (.dT (aK cs))/\cs.length<=(canon pss).length+1/\cs.length<=59/\fU (canon pss) cs=true/\
 ∀H',zx d H H'->Rd H' d (.dT (aK cs))->Q .non H'
def Mu:zn ["web","chain"] ["web","chain"] (zb Cv):=⟨rfl,rfl,rfl,δ,rfl,δ,δ⟩
def Mv{f b:Addr}{fd c:FuncData}(F:Fun K "must_be_chain" "must_be_chain" Cv f fd)(Fi:Fun K "is_chain" "is_chain" tt b c)(o:Binds K c ["web","chain"] [])(p:mg "is_chain"=some (.ref b))(q:FnOk P w K mg base aw 9 b c ["web","chain"] (Ge K)):FnOk P w K mg base aw 10 f fd ["web","chain"] (Gg K):=by
 refine F.ok Mu (fun vs H Q E h=>?_) (fun cdv A outer s H vs Q E hr h=>?_)
 ·obtain⟨l,d,as,pss,cs,rfl,_⟩:=h;rfl
 ·obtain⟨l,d,as,pss,cs,rfl,i,j,hw,a,hd,h1,h2,hc,k⟩:=h
  refine⟨_,zd (zN (eL (fg (zq q hr rfl p Fi.kp o .nil am (ac (pv 0) (ac (pv 1) al))))) Dh zv),?_⟩;refine⟨_,rfl,_,rfl,l,d,as,pss,cs,rfl,i,j,hw,a,hd,h1,h2,fun H1 e g=>⟨_,rfl,?_⟩⟩;rw[hc];exact aH (k H1 e g)
end
end K56
end
section
namespace K56
open K1
open PySem L2 STb
abbrev Cw:Stmt:=top 54
def Wt(a:Int)(c:List Int×Int):Prop:=(c.1.length:Int)=a+1/\c.2≠0/\-1000000000000000<=c.2/\c.2<=1000000000000000
def putC_at{cs:Ch}{ps:List Int}{n:Int}{c:List Int×Int}(h:c∈bS cs ps n):c∈cs\/c=(ps,n):=by
 unfold bS at h;split at h
 ·obtain⟨d,hd,e⟩:=List.mem_map.mp h
  by_cases z:d.1=ps
  ·rw[if_pos z] at e
   exact .inr (by rw[<-e,z])
  ·rw[if_neg z] at e
   exact .inl (by rw[<-e];exact hd)
 ·rcases List.mem_append.mp h with h|h
  ·exact .inl h
  ·exact .inr (List.mem_singleton.mp h)
def Mw{r:Int}(a:0<=r)(h1:r<3):∃wd:Int,atI ([.int 3,.int 20,.int (10 ^ (15:Int).toNat)]:List V) r=some (.int wd)/\0<wd/\wd<=1000000000000000:=by
 have:r=0\/r=1\/r=2:=ω
 rcases this with rfl|rfl|rfl
 ·exact⟨3,zu (j:=0) rfl,ξ,ξ⟩
 ·exact⟨20,zu (j:=1) rfl,ξ,ξ⟩
 ·exact⟨_,zu (j:=2) rfl,ξ,ξ⟩
section
variable{P:Program}{w:World}{K:Ae}{mg:Str->Option Value}{base:Heap}
def Gh(K:Ae):Sp:=fun vs H Q _=>∃p KN ks a b,vs=[.ref p,.ref KN,.int b]/\zK H p/\H KN=some (.lst (ks.map V.ref))/\Tps H ks a/\a.length<=1000/\
 ∀D cs H',zx p H H'->zK H' p->H D=none->H' D=some (.dT (aK cs))->(ksC cs).Nodup->(∀q∈ksC cs,q∈a)->cs.length<=a.length->(∀c∈cs,Wt b c)->Q (.ref D) H'
def pi:zn ["box","known","high","found","piece","wide","weight"] ["box","known","high"] (zb Cw):=⟨rfl,rfl,rfl,δ,rfl,δ,δ⟩
def Mx{f ft:Addr}{fd di:FuncData}(F:Fun K "_law_chain" "_law_chain" Cw f fd)(B:Bt mg)(Ft:Fun K "_law_take" "_law_take" kf ft di)(bt:Binds K di ["box","most"] [])(mt:mg "_law_take"=some (.ref ft)):FnOk P w K mg base aw 2 f fd ["box","known","high"] (Gh K):=by
 have Gt:FnOk P w K mg base aw 1 ft di ["box","most"] kg:=oI Ft;refine F.ok pi (fun vs H Q E h=>?_) (fun cdv A outer s H vs Q E hr h=>?_)
 ·obtain⟨p,KN,ks,S,cC,rfl,_⟩:=h;rfl
 ·obtain⟨p,KN,ks,S,cC,rfl,hb,Y,bb,hz,k⟩:=h
  have hu:=dr hr;have av:=hr.units;have l:Room 1 _:=hr.mono ξ;refine⟨_,za (zp (i:=3) pi.nd rfl (Or.inl rfl) jV)
   (za (zZ AU rfl (zA (pv 1)) (zk (i:=4) pi.nd rfl (Or.inl rfl))
    (zd (zN (PW.pt (mC (zo c_ (zh zi rfl B.len zM (ac (pv 4) al)) (zD dY (pv 2) ze) (aq _)) (mv (zo ix (zq Gt l rfl mt Ft.kp bt .nil am (ac (pv 0) (ac ze al))) ze (aq _)))))
     (za (zp (i:=5) pi.nd rfl (Or.inl rfl) (zI zC (zQ (ac ze (ac ze (ac (zD qx ze ze) al)))) (zq Gt l rfl mt Ft.kp bt .nil am (ac (pv 0) (ac ze al))) (fun _ _=>rfl)))
     (za (zp (i:=6) pi.nd rfl (Or.inl rfl) (zD kN (zq Gt l rfl mt Ft.kp bt .nil am (ac (pv 0) (ac (zD dY (zD f_ ze (pv 5)) ze) al))) (pv 5)))
     (zd (zN (zo jQ (pv 6) ze (aq _)) (zd (hV hu (pv 3) (pv 4) (pv 6) rfl)) zv)))) zv)))
   (zd (zr (pv 3)))),?_⟩
  intro D M;have aF:=bb.length;have U:=Same.new (o:=.dT []) M;have lr:KN≠D:=zg Y M;have g:D≠p:=by
   obtain⟨x,y,e,_⟩:=hb;exact(zg e M).symm
  have u:KN≠p:=hb.ne Y;refine⟨_,rfl,KN,rfl,⟨_,SqL.of (U _ _ Y)⟩,fG (K:=K) (a:=KN) (xs:=ks.map V.ref) (fun i σ H2=>∃(cs:Ch)(v4 v5 v6:Option V),σ=[some (.ref p),some (.ref KN),some (.int cC),some (.ref D),v4,v5,v6]/\zx p H H2/\zK H2 p/\H2 KN=some (.lst (ks.map V.ref))/\Tps H2 ks S/\H2 D=some (.dT (aK cs))/\(ksC cs).Nodup/\(∀q∈ksC cs,q∈S)/\cs.length<=i/\∀c∈cs,Wt cC c)
   ⟨[],none,none,none,rfl,zx.of U,hb.same U,U _ _ Y,U.tps bb,ai,List.nodup_nil,(fun q hq=>nomatch hq),Ag _,(fun c hc=>nomatch hc)⟩ (fun i σ H2 _ ⟨_,_,_,_,_,_,_,h,_⟩=>SqL.of h) ?_ ?_⟩
  ·rintro i x σ H2 hx ⟨cs,v4,v5,v6,rfl,T,G,fb,Z,aE,I,b,d,J⟩
   obtain⟨a,ea,rfl⟩:=zR hx;obtain⟨ps,aA,aM⟩:=Z.get ea;have hi:i<S.length:=(List.getElem?_eq_some_iff.mp aA).1;have W:ps∈S:=Ap aA;refine⟨_,rfl,a,_,rfl,.inr (SqT.of aM),_,rfl,_,_,rfl,rfl,rfl,_,rfl,?_⟩;refine bc (fun gY=>?_) (fun _=>?_)
   ·refine⟨_,rfl,p,3,rfl,G,ξ,ξ,fun r H3 r0 r1 v N=>⟨_,_,rfl,rfl,_,rfl,?_⟩⟩
    have gI:=v _ _ u fb;have dR:=v.tps G Z;have X:=v _ _ g aE;have mr:=v.tp G aM;refine bc (fun _=>?_) (fun _=>?_)
    ·refine⟨_,_,rfl,rfl,⟨ξ,ξ,ξ⟩,zf (by simp),fun L hL=>?_⟩
     have j:=Same.new (o:=.lst [.int 3,.int 20,.int (10 ^ (15:Int).toNat)]) hL;have iZ:L≠p:=by
      obtain⟨x,y,e,_⟩:=N;exact(zg e hL).symm
     refine⟨_,rfl,p,3,rfl,N.same j,ξ,ξ,fun q H5 q0 q1 C bW=>?_⟩;obtain⟨wd,ew,w0,w1⟩:=Mw q0 q1;refine⟨L,_,q,_,rfl,rfl,SqL.of (C _ _ iZ ai),ew,?_⟩;have vV:=C _ _ u (j _ _ gI);have nU:=C.tps (N.same j) (j.tps dR);have cH:=C _ _ g (j _ _ X);have dk:=C.tp (N.same j) (j.tp mr);have pd:zx p H H5:=((T.trans v).trans (zx.of j)).trans C;refine⟨_,rfl,_,rfl,_,_,rfl,rfl,.inl ⟨ξ,ξ⟩,_,_,rfl,rfl,p,_,rfl,bW,ω,ω,fun t H6 t0 t1 O bz=>⟨_,rfl,_,_,rfl,rfl,?_⟩⟩;have j_:=O _ _ u vV;have kM:=O.tps bW nU;have gH:=O _ _ g cH;have nX:=O.tp bW dk;have jq:=pd.trans O;refine⟨_,rfl,rfl,_,rfl,?_⟩;refine bc (fun hw0=>?_) (fun _=>?_)
     ·refine⟨_,rfl,_,rfl,_,rfl,D,_,rfl,DPut.t (k:=ps.map Sum.inl) gH (by rw[At];exact nX) (by rw[iT];exact e_ ω),⟨bS cs ps (t-wd),_,_,_,rfl,jq.then M,bz.upd g,by rw[zl lr];exact j_,Tps.upd kM gH (by intro xs z;cases z),by rw[ai,cw],c6 _ _ I,fun q hq=>?_,by have:=F_ cs ps (t-wd);omega,fun c hc=>?_⟩⟩
      rcases putC_mem hq with h|rfl
      ·exact b q h
      ·exact W
      ·rcases putC_at hc with h|rfl
       ·exact J c h
       ·have e1:=of_decide_eq_true gY
        injection e1 with e1
        rw[Ab] at e1;refine⟨e1,?_,by show -1000000000000000<=t-wd;omega,by show t-wd<=1000000000000000;omega⟩;intro z;have z':t-wd=0:=z;have qt:(!decide (V.int (t-wd)=V.int 0))=true:=hw0;rw[z'] at qt;exact absurd qt ξ
     ·exact⟨cs,_,_,_,rfl,jq,bz,j_,kM,gH,I,b,ω,J⟩
    ·exact⟨cs,_,_,_,rfl,T.trans v,N,gI,dR,X,I,b,ω,J⟩
   ·refine aH ?_
    exact⟨cs,_,_,_,rfl,T,G,fb,Z,aE,I,b,ω,J⟩
  ·rintro σ H2 ⟨cs,v4,v5,v6,rfl,T,G,fb,Z,aE,I,b,d,J⟩
   rw[Ab,aF] at d;exact⟨_,rfl,k D cs H2 T G M aE I b d J⟩
end
end K56
end
section
namespace K56
open K1
open PySem L2 STb
abbrev km:Stmt:=top 31
def Cy(H:Hp)(t:Addr)(c:List Int×Int):Prop:=∃b,H t=some (.tup [.ref b,.int c.2])/\Tp H b c.1
def Prs(H:Hp)(ts:List Addr)(cs:Ch):Prop:=Paired (Cy H) ts cs
def Prs.same{H H':Hp}{ts:List Addr}{cs:Ch}(h:Prs H ts cs)(s:Same H H'):Prs H' ts cs:=Paired.mapP h fun _ _ ⟨b,e1,e2⟩=>⟨b,s _ _ e1,s.tp e2⟩
def Prs.length{H:Hp}{ts:List Addr}{cs:Ch}(h:Prs H ts cs):ts.length=cs.length:=A2 h
def Prs.upd{H:Hp}{d:Addr}{o o':HO}{ts:List Addr}{cs:Ch}(h:Prs H ts cs)(hd:H d=some o')(a:∀xs,o'≠.tup xs):Prs (L2.upd H d o) ts cs:=
 Paired.mapP h fun t c ⟨b,e1,e2⟩=>⟨b,by rw[zl (a0 e1 hd fun z=>a _ z.symm)];exact e1,by show L2.upd H d o b=_;rw[zl (a0 (show H b=some _ from e2) hd fun z=>a _ z.symm)];exact e2⟩
def Prs.snoc{H:Hp}{ts:List Addr}{cs:Ch}{t:Addr}{c:List Int×Int}(h:Prs H ts cs)(q:Cy H t c):Prs H (ts++[t]) (cs++[c]):=Paired.snoc h q
def Prs.append{H:Hp}{ts us:List Addr}{cs ds:Ch}(h:Prs H ts cs)(q:Prs H us ds):Prs H (ts++us) (cs++ds):=by
 induction h with
 |nil=>exact q
 |cons r t ih=>exact .cons r ih
def Prs.get{H:Hp}:∀{ts:List Addr}{cs:Ch}{i:Nat}{t:Addr},Prs H ts cs->ts[i]?=some t->∃c,cs[i]?=some c/\Cy H t c
 |_,_,0,_,.cons h _,e=>by cases e;exact⟨_,rfl,h⟩
 |_,_,i+1,_,.cons _ t,e=>Prs.get (i:=i) t (by simpa using e)
def iV(cs:Ch)(q:List Int):Int:=((cs.find? fun c=>decide (c.1=q)).map (·.2)).getD 0
def Gj(cs:Ch)(q:List Int):(bv (aK cs) (q.map Sum.inl)).getD (.int 0)=.int (iV cs q):=by
 unfold bv iV aK
 induction cs with
 |nil=>rfl
 |cons c r ih=>
  rw[Ax,List.find?_cons,List.find?_cons]
  by_cases e:c.1=q
  ·rw[decide_eq_true e,decide_eq_true (hX.mpr e)];rfl
  ·rw[decide_eq_false e,decide_eq_false (fun z=>e (hX.mp z))];exact ih
def gR(acc:Ch)(t:List Int×Int):Ch:=bS acc t.1 (iV acc t.1+t.2)
def aZ(ts:Ch):Ch:=ts.foldl gR []
def du(ts:Ch):Ch:=(aZ ts).filter dw
def Cz(ts:Ch)(t:List Int×Int):aZ (ts++[t])=gR (aZ ts) t:=by unfold aZ;rw[List.foldl_append];rfl
def pj{c:Type}{P:List c->Prop}(d:P [])(hs:∀l x,P l->P (l++[x]))(l:List c):P l:=by
 have:∀n,∀l:List c,l.length=n->P l:=by
  intro n
  induction n with
  |zero=>intro l a;rw[List.eq_nil_of_length_eq_zero a];exact d
  |succ n ih=>
   intro l a;have b:l≠[]:=fun z=>by rw[z] at a;simp at a
   rw[<-List.dropLast_concat_getLast b];exact hs _ _ (ih _ (by rw[List.length_dropLast];omega))
 exact this _ l rfl
def CA(ts:Ch):(ksC (aZ ts)).Nodup:=pj (P:=fun ts=>(ksC (aZ ts)).Nodup) List.nodup_nil (fun l x h=>by rw[Cz];exact c6 _ _ h) ts
def pk(ts:Ch):(aZ ts).length<=ts.length:=pj (P:=fun ts=>(aZ ts).length<=ts.length) (Ag _) (fun l x h=>by
 rw[Cz,As];have:=F_ (aZ l) x.1 (iV (aZ l) x.1+x.2);unfold gR;simp;omega) ts
def Gq{cs:Ch}{q:List Int}(v:Int)(h:q∉ksC cs):bS cs q v=cs++[(q,v)]:=by unfold bS;rw[if_neg h]
def sg(k:Nat)(n:Int):Int:=if(k:Int)%2=0 then n else -n
section
variable{P:Program}{w:World}{K:Ae}{mg:Str->Option Value}{base:Heap}
def Gr(K:Ae):Sp:=fun vs H Q _=>∃l ts cs,vs=[.ref l]/\SqL K H l (ts.map V.ref)/\Prs H ts cs/\cs.length<=1000/\∀D H',Same H H'->H D=none->H' D=some (.dT (aK (du cs)))->Q (.ref D) H'
def lH:zn ["terms","sums","piece","weight","told"] ["terms"] (zb km):=⟨rfl,rfl,rfl,δ,rfl,δ,δ⟩
def Mz{f:Addr}{fd:FuncData}(F:Fun K "sum_of" "sum_of" km f fd):FnOk P w K mg base aw 1 f fd ["terms"] (Gr K):=by
 refine F.ok lH (fun vs H Q E h=>?_) (fun cdv A outer s H vs Q E hr h=>?_)
 ·obtain⟨l,ts,cs,rfl,_⟩:=h;rfl
 ·obtain⟨l,ts,cs,rfl,hl,hp,hz,k⟩:=h
  have hu:=dr hr;have fW:=hp.length;refine⟨_,za (zp (i:=1) lH.nd rfl (Or.inl rfl) jV)
   (za (zZ AU rfl (zA (pv 0)) (mS rfl (fX (zk (i:=2) lH.nd rfl (Or.inl rfl)) (fX (zk (i:=3) lH.nd rfl (Or.inl rfl)) mQ)))
    (zd (hV hu (pv 1) (pv 2) (zD dY (DS hu (pv 1) (pv 2) ze ⟨rfl,rfl,rfl,rfl⟩) (pv 3)) rfl)))
   (za (zp (i:=4) lH.nd rfl (Or.inl rfl) jV)
   (za (zZ AU rfl (F0 (pv 1)) (zk (i:=2) lH.nd rfl (Or.inl rfl))
    (zd (zN (zo jQ (eT hu (pv 1) (pv 2) (fun _ _=>rfl)) ze (aq _)) (zd (hV hu (pv 4) (pv 2) (eT hu (pv 1) (pv 2) (fun _ _=>rfl)) rfl)) zv)))
   (zd (zr (pv 4)))))),?_⟩
  intro d hd;refine⟨_,rfl,l,rfl,⟨_,(Same.new hd).seq hl⟩,fG (K:=K) (a:=l) (xs:=ts.map V.ref) (fun i σ H2=>∃(C L:Option V),σ=[some (.ref l),some (.ref d),C,L,none]/\Same H H2/\H2 d=some (.dT (aK (aZ (cs.take i)))))
   ⟨none,none,rfl,Same.new hd,ai⟩ (fun i σ H2 _ ⟨_,_,_,r,_⟩=>r.seq hl) ?_ ?_⟩
  ·rintro i x σ H2 hx ⟨C,L,rfl,r,v⟩
   obtain⟨t,et,rfl⟩:=zR hx;obtain⟨c,G,b,e1,e2⟩:=hp.get et;have kU:H2 b=some (.tup ((c.1.map Sum.inl:List Key).map kV)):=by rw[At];exact r.tp e2
   have q:(aK (aZ (cs.take i))).length<sizeLine:=by
    rw[iT];have:=pk (cs.take i);rw[AG] at this;exact e_ ω
   refine⟨t,_,rfl,SqT.of (r _ _ e1),rfl,_,_,rfl,_,_,rfl,rfl,?_⟩;refine⟨_,rfl,d,rfl,.inr ⟨_,.inl v⟩,_,rfl,_,DGet.t (k:=c.1.map Sum.inl) v kU,?_⟩;rw[Gj];refine⟨_,rfl,_,_,rfl,rfl,_,rfl,_,rfl,d,_,rfl,DPut.t (k:=c.1.map Sum.inl) v kU q,⟨_,_,rfl,r.then hd,?_⟩⟩;rw[ai,cw,AM G,Cz]
   rfl
  ·rintro σ H2 ⟨C,L,rfl,r,v⟩
   rw[Ab,fW,take_all] at v;intro T hT;have W:H T=none:=r.free hT;have S:d≠T:=zg v hT;have X:=CA cs;have fJ:=pk cs;unfold du at k;generalize aZ cs=p at v X fJ k;refine⟨_,rfl,d,aK p,rfl,.inl (by rw[zl S];exact v),fun o H3 fB bK=>F5 (fun i σ y=>∃(C:Option V),σ=[some (.ref l),some (.ref d),C,L,some (.ref T)]/\Same H y/\y d=some (.frz o (.dT (aK p)))/\y T=some (.dT (aK ((p.take i).filter dw))))
    ⟨_,rfl,fun b u e=>by rw[bK b (zg e hd),zl (zg e W)];exact r _ _ e,fB,by rw[bK T (Ne.symm S)];exact ai⟩ (fun i σ y _ ⟨_,_,_,h,_⟩=>h) ?_ ?_⟩
   ·rintro i kv b σ y M hb ⟨C,rfl,N,O,I⟩
    have hi:i<p.length:=by
     have:=(List.getElem?_eq_some_iff.mp M).1;rw[iT] at this;exact this
    have G:p[i]?=some p[i]:=Af hi;obtain rfl:(((p[i]).1.map Sum.inl:List Key),V.int (p[i]).2)=kv:=by
     unfold aK at M;rw[Ai,G] at M;exact An M
    have J:p[i]∈p:=A9 hi;have cZ:(p[i]).1∉ksC ((p.take i).filter dw):=fun z=>by
     obtain⟨c',gd,e'⟩:=List.mem_map.mp z;obtain⟨j,U⟩:=List.getElem?_of_mem ((List.mem_filter.mp gd).1);have Y:j<i:=by
      have:=(List.getElem?_eq_some_iff.mp U).1;rw[AG] at this;omega
     rw[List.getElem?_take_of_lt Y] at U;have h1:(ksC p)[j]?=some (p[i]).1:=by unfold ksC;rw[Ai,U];exact congrArg some e'
     have h2:(ksC p)[i]?=some (p[i]).1:=by unfold ksC;rw[Ai,G];rfl
     have Z:j<(ksC p).length:=by rw[kh];omega
     have:=(List.getElem?_inj Z X).mp (h1.trans h2.symm);omega
    have q:(aK ((p.take i).filter dw)).length<sizeLine:=by
     rw[iT];have:=List.length_filter_le dw (p.take i);rw[AG] at this;exact e_ ω
    have g:DGet y d (.ref b) (some (.int (p[i]).2)):=.inr ⟨aK p,(p[i]).1.map Sum.inl,b,.inr ⟨o,O⟩,rfl,hb,(lG X _ J).symm⟩;have vJ:T≠d:=Ne.symm S;refine⟨_,rfl,_,rfl,d,_,rfl,g,rfl,_,rfl,?_⟩;cases hz0:dw p[i] with
    |true=>
     have D:(!decide (V.int (p[i]).2=V.int 0))=true:=hz0;rw[D];refine aX ⟨_,rfl,_,rfl,d,_,rfl,g,_,rfl,_,rfl,T,_,rfl,DPut.t (k:=(p[i]).1.map Sum.inl) I hb q,⟨_,rfl,N.then W,by rw[zl S];exact O,?_⟩⟩;rw[ai,cw,Gq _ cZ,AM G,AV,List.filter_cons_of_pos hz0]
     rfl
    |false=>
     have D:(!decide (V.int (p[i]).2=V.int 0))=false:=hz0;rw[D];refine aH ⟨_,rfl,N,O,?_⟩;rw[AM G,AV,List.filter_cons_of_neg (by rw[hz0];decide),List.filter_nil,List.append_nil];exact I
   ·rintro σ y ⟨C,rfl,N,O,I⟩
    rw[iT,take_all] at I;exact⟨_,rfl,k T y N W I⟩
end
end K56
end
section
namespace K56
open K1
open PySem L2 STb
def MA(ts:Ch):(ksC (du ts)).Nodup:=(CA ts).sublist ((List.filter_sublist (p:=dw) (l:=aZ ts)).map _)
def MB(ts:Ch):(du ts).length<=ts.length:=AO (List.length_filter_le _ _) (pk ts)
def lN(ts:Ch):Ch:=ts.foldl (fun acc t=>bS acc t.1 t.2) []
def Gs:∀(ts acc:Ch),(aK ts).foldl (fun acc kv=>putK acc kv.1 kv.2) (aK acc)=aK (ts.foldl (fun acc t=>bS acc t.1 t.2) acc)
 |[],_=>rfl
 |t::r,acc=>by
  show(aK r).foldl _ (putK (aK acc) (t.1.map Sum.inl) (.int t.2))=_;rw[cw];exact Gs r _
def MC(ts:Ch):ti (aK ts)=aK (lN ts):=Gs ts []
def MD{c:Ξ}{n:Nat}(h:∀q∈c,q.length=n):gP c=true:=by
 unfold gP;refine decide_eq_true ?_;have:(dd (dM c)).length<=1:=(Ma _).mpr fun x hx y hy=>by
  unfold dM at hx hy;obtain⟨a,d,rfl⟩:=List.mem_map.mp hx;obtain⟨b,hb,rfl⟩:=List.mem_map.mp hy;rw[h a d,h b hb]
 omega
def Gu{a:Ξ}{cs:Ch}{n:Nat}(h1:∀c∈cs,c.1∈a)(h2:∀c∈cs,c.1.length=n)(b:∀c∈cs,c.2≠0):fU a cs=true:=by
 unfold fU;rw[decide_eq_true (fun k hk=>by obtain⟨c,hc,rfl⟩:=List.mem_map.mp hk;exact h1 c hc),MD (n:=n) (fun q hq=>by obtain⟨c,hc,rfl⟩:=List.mem_map.mp hq;exact h2 c hc),Bool.true_and,Bool.true_and,List.all_map,List.all_eq_true];intro c hc;show(!decide (V.int c.2=V.int 0))=true;rw[decide_eq_false (fun z=>b c hc (by injection z))]
 rfl
end K56
end
section
namespace K56
open K1
open PySem L2 STb
def pl{H:Hp}{d b:Addr}{kvs:List (List Key×V)}{o:HO}(r:Rd H d (.dT kvs))(h:H b=some o)(h1:∀k,o≠.dT k)(h2:∀q k,o≠.frz q (.dT k)):b≠d:=by
 rintro rfl;rcases r with r|⟨q,r⟩
 ·exact h1 _ (An (h.symm.trans r))
 ·exact h2 _ _ (An (h.symm.trans r))
def zx.lst{H H':Hp}{d b:Addr}{kvs:List (List Key×V)}{xs:List V}(s:zx d H H')(r:Rd H d (.dT kvs))(h:H b=some (.lst xs)):H' b=some (.lst xs):=s _ _ (pl r h (by intro k z;cases z) (by intro q k z;cases z)) h
def zx.tpD{H H':Hp}{d b:Addr}{kvs:List (List Key×V)}{ps:List Int}(s:zx d H H')(r:Rd H d (.dT kvs))(h:Tp H b ps):Tp H' b ps:=s _ _ (pl r (show H b=some _ from h) (by intro k z;cases z) (by intro q k z;cases z)) h
def zx.tpsD{H H':Hp}{d:Addr}{kvs:List (List Key×V)}{as:List Addr}{pss:Ξ}(s:zx d H H')(r:Rd H d (.dT kvs))(h:Tps H as pss):Tps H' as pss:=Paired.mapP h fun _ _ q=>s.tpD r q
def zx.freeD{H H':Hp}{d l:Addr}{u:HO}(s:zx d H H')(r:Rd H' d u)(h:H' l=none):H l=none:=by
 cases q:H l with
 |none=>rfl
 |some o=>
  have a:l≠d:=fun z=>by
   rw[z] at h;rcases r with r|⟨_,r⟩<;>rw[h] at r<;>cases r
  rw[s _ _ a q] at h;cases h
def zx.thenD{H H1:Hp}{d a:Addr}{o:HO}(e:zx d H H1)(h:H a=none):zx d H (L2.upd H1 a o):=fun b u hb q=>by rw[zl (zg q h)];exact e b u hb q
def ME{cs:Ch}{i:Nat}{kv:List Key×V}(h:(aK cs)[i]?=some kv):∃c,cs[i]?=some c/\kv=((c.1.map Sum.inl:List Key),V.int c.2):=by
 unfold aK at h;rw[Ai] at h;cases e:cs[i]? with
 |none=>rw[e] at h;cases h
 |some c=>rw[e] at h;exact⟨c,rfl,(An h).symm⟩
def Gv{H:Hp}{b:Addr}{ps:List Int}(h:H b=some (.tup ((ps.map Sum.inl:List Key).map kV))):Tp H b ps:=by rw[At] at h;exact h
def tz{H:Hp}{b:Addr}{ps:List Int}(h:Tp H b ps):H b=some (.tup ((ps.map Sum.inl:List Key).map kV)):=by rw[At];exact h
def Gx{cs:Ch}{i:Nat}{c:List Int×Int}(f:List Int×Int->Ch)(h:cs[i]?=some c):(cs.take (i+1)).flatMap f=(cs.take i).flatMap f++f c:=by rw[AM h,List.flatMap_append];simp
structure WC(H:Hp)(l d:Addr)(as:List Addr)(pss:Ξ)(cs:Ch):Prop where
 hl:H l=some (.lst (as.map V.ref))
 ht:Tps H as pss
 hw:b0 pss
 h59:(canon pss).length<=58
 hd:Rd H d (.dT (aK cs))
 ln:cs.length<=(canon pss).length
 hc:fU (canon pss) cs=true
 nd:(ksC cs).Nodup
def WC.same{H H':Hp}{l d:Addr}{as:List Addr}{pss:Ξ}{cs:Ch}(h:WC H l d as pss cs)(s:Same H H'):WC H' l d as pss cs:=⟨s _ _ h.hl,s.tps h.ht,h.hw,h.h59,h.hd.same s,h.ln,h.hc,h.nd⟩
def WC.walked{H H':Hp}{l d:Addr}{as:List Addr}{pss:Ξ}{cs:Ch}(h:WC H l d as pss cs)(s:zx d H H')(r:Rd H' d (.dT (aK cs))):WC H' l d as pss cs:=⟨s.lst h.hd h.hl,s.tpsD h.hd h.ht,h.hw,h.h59,r,h.ln,h.hc,h.nd⟩
end K56
end
section
namespace STb
open PySem PySem.SetTable PyProof.Rows
def iv:Value->Int
 |.int n _=>n
 |_=>0
def SI(prog:Program)(w:World)(h:Heap)(S:Addr)(ns:List Int):Prop:=
 ∃o es ep t,h.get? S=some o/\o.ExactSet/\o.data=.set es ep t/\Tb t (es.map (·.1))/\ElemsOf (intKind prog w) es.toList/\(es.toList.map fun e=>iv e.2).Perm ns/\ns.Nodup/\
  ((t.mask=7/\es.size<=4)\/(t.mask=31/\es.size<=18))/\(w.params.followText "set-order"=true\/(t.led=true/\t.plain=true))
def SI.keep{prog:Program}{w:World}{h h':Heap}{S:Addr}{ns:List Int}(x:SI prog w h S ns)(k:∀o,h.get? S=some o->h'.get? S=some o):SI prog w h' S ns:=
 let ⟨o,es,ep,t,h1,r⟩:=x;⟨o,es,ep,t,k o h1,r⟩
def MF{l:List Nat}{n:Nat}(b:l.Nodup)(c:l.length=n)(hb:∀q∈l,q<n):l.Perm (Ba n):=by
 refine(List.perm_ext_iff_of_nodup b List.nodup_range).mpr fun q=>⟨fun h=>List.mem_range.mpr (hb q h),fun h=>?_⟩;apply Classical.byContradiction;intro z;have a:(q::l).Nodup:=List.nodup_cons.mpr ⟨z,b⟩;have sub:(q::l) ⊆ Ba n:=fun x hx=>by
  rcases List.mem_cons.mp hx with e|e
  ·rw[e];exact h
  ·exact List.mem_range.mpr (hb x e)
 have:=a.length_le_of_subset sub;rw[Au,List.length_range] at this;omega
def MG{t:SetTable}{hs:Array Int}(T:Tb t hs)(h:Int):∃ne,¬ej t (pos t.mask h ne)/\(∀m,m<ne->ej t (pos t.mask h m))/\t.freeSlot h=some (pos t.mask h ne,false):=by
 obtain⟨ne,a,he,hm⟩:=yU T h;refine⟨ne,he,hm,?_⟩;unfold SetTable.freeSlot;have b:t.probeStart h=pr t.mask h 0:=rfl;rw[b];rcases probe_spec T (hashAt:=fun _=>h+1) a he hm (AK _) with ⟨e,_⟩|⟨N,i,_,_,_,e,_⟩
 ·rw[e];rfl
 ·omega
def MH{t:SetTable}{es:Array (Int×Value)}{want m2:Nat}(hw:SetTable.sizeAbove want-1=m2)(hc:ei m2)(v:m2%2=1)(hr:es.size<=m2):∃es' t',relayAll t es want=(es',t',false)/\t'.mask=m2/\t'.led=t.led/\t'.plain=t.plain/\Tb t' (es'.map (·.1)):=by
 obtain⟨c,a,e1,e2,e3,j,f,l,d,o⟩:=ER hc v t.finger (t.movedTo m2) t.led t.plain (es.map (·.1)) (by rw[AY];exact hr);have r:t.relaid (es.map (·.1)) want=some (c,a):=by
  unfold SetTable.relaid;rw[hw];exact e1
 rw[AY] at f d;obtain⟨b,f1,f2,f3,f4⟩:=zc (es:=es) d;have h:a.filterMap (es[·]?)=b.toArray:=by
  apply Array.toList_inj.mp;rw[Array.toList_filterMap,f1]
 have w:b.length=es.size:=by rw[f2,Aw,f]
 have g:(b.toArray.map (·.1))=a.map fun q=>((es.map (·.1))[q]?).getD 0:=by
  apply Array.ext_getElem?;intro i;rw[Array.getElem?_map,Array.getElem?_map,List.getElem?_toArray];cases q:a[i]? with
  |none=>
   have:a.toList.length<=i:=by rw[Aw];exact Array.getElem?_eq_none_iff.mp q
   rw[List.getElem?_eq_none ω]
   rfl
  |some p=>
   have e:=f4 i p (by rw[AE];exact q);have hp:=d p (by rw[<-AE] at q;exact Ap q);rw[e,getElem?_pos es p hp];simp[hp]
 have T2:Tb c (b.toArray.map (·.1)):=by rw[g];exact o
 refine⟨b.toArray,c,?_,e2,e3,j,T2⟩;unfold relayAll;rw[r];dsimp only;have s:coversAll a es.size=true:=by
  unfold coversAll;rw[List.isPerm_iff];exact MF l (by rw[Aw];exact f) d
 have u:c.fits (a.filterMap (es[·]?)).size=true:=by rw[h];exact fits_of T2
 rw[s,u,h]
 rfl
section
variable{prog:Program}{w:World}{A:Around}{E:Ω}{s:Shared}
def Gy{e:Int×Value}{l:List (Int×Value)}(h:ElemsOf (intKind prog w) l)(he:e∈l):∃n t,e=((intKind prog w).hash n,.int n t):=by
 obtain⟨⟨k,h1,h2⟩,_⟩:=h e he;obtain⟨t,a⟩:=Value.isInt_shape h1;exact⟨k,t,Prod.ext h2 a⟩
def MI{S:Addr}{ns:List Int}(X:SI prog w s.heap S ns)(hn:ns.length<18){n:Int}{tk:Tok}{Q:Bool->Shared->Prop}(h:∀(r:Bool) h',SI prog w h' S (if n∈ns then ns else ns++[n])->AQ S s.heap h'->Q r {s with heap:=h'}):wpAny (model prog w) A (setAddHashed S (.int n tk) ((intKind prog w).hash n)) Q E s:=by
 obtain⟨o,es,ep,t,v,hex,hd,T,C,hp,Z,mk,wk⟩:=id X;have hf:=fits_of T;have M:(intKind prog w).is n (.int n tk)=true:=intKind_is _ _ _ _;have N:es.size=ns.length:=by have:=hp.length_eq;simpa using this
 have hb:es.size<scanBound:=by unfold scanBound;omega
 unfold setAddHashed setAddHashedIn;refine AA (Aa (AZ v hd hf ?_));dsimp only;rw[byScan_of (knd:=intKind prog w) rfl hb C];simp only[↓reduceIte];unfold setAddByScan;refine Aa ?_;refine Aa (wpAny_rule ?_);refine Aa (wpAny_setScan_of M v hd hf C ?_);cases hr:List.findIdx? (fun e=>(intKind prog w).is n e.2) es.toList with
 |some j=>
  dsimp only;obtain⟨hj,vp,_⟩:=List.findIdx?_eq_some_iff_getElem.mp hr;have F:n∈ns:=by
   refine hp.mem_iff.mp (List.mem_map.mpr ⟨es.toList[j],A9 hj,?_⟩);obtain⟨t',e⟩:=Value.isInt_shape vp;rw[e];rfl
  refine Ac (Ac ?_);have e:s={s with heap:=s.heap}:=by cases s;rfl
  have:=h false s.heap (by rw[if_pos F];exact X) (Heap.SameBut.refl _ _);exact this
 |none=>
  dsimp only;have G:n∉ns:=fun z=>by
   obtain⟨e,he,e2⟩:=List.mem_map.mp (hp.mem_iff.mpr z);obtain⟨m,t',e3⟩:=Gy C he;have:=List.findIdx?_eq_none_iff.mp hr e he;subst e3;obtain rfl:m=n:=e2;rw[intKind_is] at this;exact Bool.noConfusion this
  obtain⟨ne,he,hm,ef⟩:=MG T ((intKind prog w).hash n);have cI:(es.map (·.1)).size+1<=t.mask:=by
   rw[AY];rcases mk with ⟨a,b⟩|⟨a,b⟩<;>omega
  obtain⟨p1,p2,p3⟩:=EO T he hm cI;rw[AY] at p1;obtain⟨c,p,D⟩:∃c p,t.put (pos t.mask ((intKind prog w).hash n) ne)=(c,p):=⟨_,_,rfl⟩;have rZ:c.led=t.led:=by
   have e1:c=(t.put (pos t.mask ((intKind prog w).hash n) ne)).1:=by rw[D]
   rw[e1];rfl
  have H:c.plain=t.plain:=by
   have e1:c=(t.put (pos t.mask ((intKind prog w).hash n) ne)).1:=by rw[D]
   rw[e1];rfl
  rw[D] at p1 p2 p3;dsimp only at p1 p2 p3;have I:(insertAt es p ((intKind prog w).hash n,Value.int n tk)).size=es.size+1:=og _ _ _ p1;have d:(insertAt es p ((intKind prog w).hash n,Value.int n tk)).map (·.1)=insertAt (es.map (·.1)) p ((intKind prog w).hash n):=ins_map (·.1) es p _ p1;have T1:Tb c ((insertAt es p ((intKind prog w).hash n,Value.int n tk)).map (·.1)):=by rw[d];exact p3
  have f1:=fits_of T1;have O:layNew t es ((intKind prog w).hash n) (.int n tk)=(insertAt es p ((intKind prog w).hash n,Value.int n tk),c,false,false):=by
   unfold layNew;rw[ef];dsimp only;rw[D];dsimp only;unfold SetTable.orStandIn;rw[f1]
   rfl
  have f:=layNew_perm t es ((intKind prog w).hash n) (.int n tk);rw[O] at f;rw[O];dsimp only at f ⊢;rw[Array.toList_push] at f;have P:ElemsOf (intKind prog w) (insertAt es p ((intKind prog w).hash n,Value.int n tk)).toList:=(C.push M rfl).perm f;have U:((insertAt es p ((intKind prog w).hash n,Value.int n tk)).toList.map fun e=>iv e.2).Perm (ns++[n]):=by
   refine(f.map _).trans ?_;rw[Am];exact hp.append_right _
  have g:(ns++[n]).Nodup:=by
   rw[List.nodup_append];refine⟨Z,by simp,fun x hx y hy=>?_⟩;rw[List.mem_singleton.mp hy];exact fun z=>G (z▸hx)
  have i:w.params.followText "set-order"=true\/(c.led=true/\c.plain=true):=by rw[rZ,H];exact wk
  have l:(insertAt es p ((intKind prog w).hash n,Value.int n tk)).size<scanBound:=by rw[I];unfold scanBound;omega
  generalize insertAt es p ((intKind prog w).hash n,Value.int n tk)=bf at *;refine Aa (Ac ?_);have tail:wpAny (model prog w) A (storeSet S bf c >>= fun _=>if(!false&&c.tooFull)=true then(do
      (match (relayAll c bf (SetTable.grown bf.size)).2.2 with|true=>rule "set.scan.the-table-gave-way" |false=>pure ())
      storeSet S (relayAll c bf (SetTable.grown bf.size)).1 (relayAll c bf (SetTable.grown bf.size)).2.1
      pure (some true))
     else pure (some true)) (fun a s'=>wpAny (model prog w) A (match a with|some added=>pure added|none=>setAddHashedIn S (.int n tk) ((intKind prog w).hash n) 99999) Q E s') E s:=by
   refine Aa (wpAny_storeSet_of v hd ?_ (fits_of_scanBound l));have J:=rx (es':=bf) (t':=c) v hd;have W:=AL s.heap S (Obj.putSet bf c);have fl:c.fill=es.size+1:=by
    unfold SetTable.fill;rw[T1.dum,T1.size,AY,I]
    rfl
   have Y:c.tooFull=decide ((es.size+1)*5 ≥ t.mask*3):=by unfold SetTable.tooFull;rw[fl,p2]
   by_cases q:(es.size+1)*5 ≥ t.mask*3
   ·rw[Y,decide_eq_true q]
    simp only[Bool.not_false,Bool.and_self,if_true];have h5:es.size+1=5/\t.mask=7:=by rcases mk with ⟨a,b⟩|⟨a,b⟩<;>omega
    obtain⟨L,t3,r1,r2,r3,r4,r5⟩:=MH (t:=c) (es:=bf) (want:=SetTable.grown bf.size) (m2:=31) (by rw[I,h5.1];decide +kernel) gj rfl ω;have u:=relayAll_perm c bf (SetTable.grown bf.size);rw[r1] at u ⊢;dsimp only at u ⊢;have mJ:L.size=bf.size:=by rw[<-Aw,u.length_eq,Aw]
    refine Aa (Ac ?_);refine Aa (wpAny_storeSet_of J rfl ?_ (fits_of_scanBound (by rw[mJ];exact l)));refine Ac (Ac (h true _ ?_ (W.trans (AL _ S _))));rw[if_neg G];exact⟨_,L,ep+1+1,t3,rx J rfl,hex,rfl,r5,P.perm u,(u.map _).trans U,g,.inr ⟨r2,ω⟩,by rw[r3,r4];exact i⟩
   ·rw[Y,decide_eq_false q]
    simp only[Bool.and_false,Ah,if_false];have sJ:(c.mask=7/\bf.size<=4)\/(c.mask=31/\bf.size<=18):=by
     rcases mk with ⟨a,b⟩|⟨a,b⟩
     ·left;omega
     ·right;omega
    refine Ac (Ac (h true _ ?_ W));rw[if_neg G];exact⟨_,bf,ep+1,c,J,hex,rfl,T1,P,U,g,sJ,i⟩
  cases hpl:c.plain with
  |true=>
   simp only[if_true];refine Aa ?_;rw[hashByValue_scannable 8 rfl];refine Ac ?_;simp only[plainKind,if_true];exact tail
  |false=>
   simp only[Ah,if_false];refine Aa (Ac ?_);simp only[if_true];exact tail
end
section
variable{prog:Program}{w:World}{A:Around}{R:Result->Shared->Prop}{I:Addr}{fp wr:List Addr}{G:Array GenState->Array GenState->Prop}{n:Nat}{P:Nat->Value->Prop}{St:Nat->Shared->Prop}
def MJ(W:WalksS prog w A.in1 I fp wr G n P St)(S:Addr)(f:S∉fp)(val:Nat->Int)(g:∀i v,P i v->∃t,v=.int (val i) t)(hb:n<=18):∀(k i:Nat)(s:Shared),n-i=k->i<=n->St i s->SI prog w s.heap S (firstMet val i)->
   (∀s',Moved (S::wr) G s s'->SI prog w s'.heap S (firstMet val n)->R (.ok (.ret .none)) s')->
   codeAny (model prog w) A (.builtin "set.update.loop" ⟨[.ref S,.ref I],[]⟩) R s:=by
 have c:S∉wr:=fun h=>f (W.sub _ h);have y:∀b∈wr,b∈S::wr:=fun b hb=>Ay _ hb;intro k
 induction k with
 |zero=>
  intro i s hk hi a l hR;have p:i=n:=ω
  subst p;refine AW F.entry_set_update_loop ?_;rw[A4 F.plain_set_update_loop _];show wpAny _ A.in1 (pyNext (.ref I) >>= _) _ _ s;refine Aa (W.done s _ _ a fun s' hm=>?_);show wpAny _ A.in1 (ret Value.none) _ _ s';exact Ac (hR s' (hm.mono y) (l.keep fun o e=>hm.heap S o c e))
 |succ k ih=>
  intro i s hk hi a l hR;have d:i<n:=ω
  refine AW F.entry_set_update_loop ?_;rw[A4 F.plain_set_update_loop _];show wpAny _ A.in1 (pyNext (.ref I) >>= _) _ _ s;refine Aa (W.item i s _ _ d a fun v s' C D hm=>?_);obtain⟨t,rfl⟩:=g i v C;have L:SI prog w s'.heap S (firstMet val i):=l.keep fun o e=>hm.heap S o c e;show wpAny _ A.in1 (holding [Value.int (val i) t] (setAdd S (.int (val i) t)) >>= _) _ _ s';refine Aa (AA ?_);unfold setAdd;refine AA ?_;refine Aa ((intKind prog w).pyHash (k:=val i) (intKind_is _ _ _ _) ?_);have M:(firstMet val i).length<18:=by have:=firstMet_length_le val i;omega
  refine MI (s:={s' with toks:=s'.toks+1}) L M fun r h' j u=>?_;have N:SI prog w h' S (firstMet val (i+1)):=by
   rw[firstMet_succ];unfold step_dedup
   by_cases q:val i∈firstMet val i
   ·rw[if_pos q] at j;rw[if_pos (List.any_eq_true.mpr ⟨_,q,by simp⟩)];exact j
   ·rw[if_neg q] at j;rw[if_neg fun z=>by obtain⟨x,hx,e⟩:=List.any_eq_true.mp z;exact q (eq_of_beq e▸hx)];exact j
  refine Ac ⟨plainId_quiet F.plain_set_update_loop _,ih (i+1) _ ω d (W.frame _ s' _ _ D (Nat.le_succ _) fun b hb o e=>?_) N fun E H J=>?_⟩
  ·rw[u.2 b (fun h:b=S=>f (by rw[<-h];exact hb))];exact e
  ·refine hR E (Moved.trans W.gtrans ((hm.mono y).then_heap (Nat.le_succ _) fun b o hb e=>?_) H) J
   rw[u.2 b (fun h:b=S=>hb (by rw[h];exact Av))];exact e
end
section
variable{prog:Program}{w:World}{A:Around}{E:Ω}{s:Shared}
def MK{l:Addr}{a:Array Value}{ns:List Int}{Q:Ω}(hh:A.handled=none)(hl:s.heap.IsList l a)(hi:IntsAre a.toList ns)(hb:a.size<=18)(h:∀(h':Heap)(tk:Nat),SI prog w h' s⁻¹ (dd ns)->
   (∀b o,b<s⁻¹->s.heap.get? b=some o->h'.get? b=some o)->Q (.ref s⁻¹) {s with heap:=h',toks:=tk}):
  wpAny (model prog w) A (call (.type "set") [.ref l]) Q E s:=by
 obtain⟨c,tl,cW⟩:=F.called_set.mro;have cN:=F.called_set.made;have aB:=F.called_set.sub;have x:firstMet (fun i=>ns.getD i 0) a.size=dd ns:=by
  have hn:a.size=ns.length:=by rw[<-Aw];exact hi.length
  rw[hn,FU ns _ (Ag _),List.take_length]
 refine wpAny_call (codeAny_of_tree ?_);show wpAny _ _ (callAny (.type "set") _) _ _ _;refine Ac ⟨Code.quiet_builtin _ δ,AW F.entry_type_call ?_⟩;rw[Around.under_plain (weight_type_call_type "set" [.ref l] []) rfl];have h1:=F.called_set.notType;have h2:=F.called_set.canCreate;have ja:=F.typeCall_set_1 (.ref l)
 repeat(any_goals(first|assumption|wp_step))
 refine Bc (Bw (.ref l) (E:=E) (Q₁:=fun obj G=>∃led:Bool,(w.params.followText "set-order"=true\/led=true)/\obj=.ref s⁻¹/\G={s with heap:=s.heap.push {cls:=.type "set",dict:=none,data:=.set #[] 0 (.fresh 0 0 led)}}) ⟨_,by cases w.params.followText "set-order" <;> simp,rfl,rfl⟩) fun r G hr=>?_;cases r with
 |error e=>exact hr
 |ok fl=>
  cases fl with
  |ret obj=>
   obtain⟨led,T,rfl,rfl⟩:=hr;have M:(s.heap.push {cls:=.type "set",dict:=none,data:=.set #[] 0 (.fresh 0 0 led)}).get? s⁻¹=some {cls:=.type "set",dict:=none,data:=.set #[] 0 (.fresh 0 0 led)}:=Al _ rfl;have dG:Shared.TypeIs {s with heap:=s.heap.push {cls:=.type "set",dict:=none,data:=.set #[] 0 (.fresh 0 0 led)}} (.ref s⁻¹) "set":=⟨_,M,rfl⟩;have jZ:=F.called_set.init.lookup;have jt:=F.called_set.init.bind (.ref s⁻¹)
   repeat(any_goals(first|assumption|wp_step))
   refine Bc (codeAny_call_builtin (R:=wants (fun r H=>r=.none/\∃h' tk,H={s with heap:=h',toks:=tk}/\
     SI prog w h' s⁻¹ (dd ns)/\
     (∀b o,b<s⁻¹->s.heap.get? b=some o->h'.get? b=some o)) E) F.called_set.init.plain F.entry_set_init (check_set_init_1 dG ?_)) fun P H q=>?_
   ·obtain⟨U,J,d,u,L⟩:=hl
    obtain⟨mH,W,jx,X⟩:=U;simp only at d L;subst d;subst L;have N:(s.heap.push {cls:=.type "set",dict:=none,data:=.set #[] 0 (.fresh 0 0 led)}).get? l=some {cls:=.type "list",dict:=W,data:=.seq a u,slots:=X}:=Ad _ J;have nP:=F.sub_list_set;have mL:=F.sub_list_frozenset;have hne:(Value.type "list" == Value.type "dict")=false:=ξ
    have y:(s.heap.push {cls:=.type "set",dict:=none,data:=.set #[] 0 (.fresh 0 0 led)}).IsList l a:=⟨_,N,rfl,u,rfl⟩;unfold Builtin.«set.__init__» noKeywords Builtin.Frozenset.updateFrom;generalize hPI:pyIter=PI
    wp_walk
    subst hPI;refine wpAny_pyIter_list y ?_;refine Aa (wpAny_runValue ?_);have O:l<s⁻¹:=Ak J;have nY:A.in1.in1.in1.handled=none:=by simp[hh]
    have f:l≠(s.heap.push {cls:=.type "set",dict:=none,data:=.set #[] 0 (.fresh 0 0 led)}).objs.size:=by
     rw[Heap.size_push];exact Ao (Be O)
    have C:s⁻¹∉[(s.heap.push {cls:=.type "set",dict:=none,data:=.set #[] 0 (.fresh 0 0 led)}).objs.size,l]:=by
     rw[Heap.size_push];simp only[List.mem_cons,Bh,List.not_mem_nil,or_false,not_or];exact⟨Ao (Nat.lt_succ_self _),Nat.ne_of_gt O⟩
    have g:∀(i:Nat)(v:Value),a[i]?=some v->∃t,v=.int ((fun i=>ns.getD i 0) i) t:=fun i v S=>
     PyProof.Rows.IntsAre.int_at hi i v (by rw[AE];exact S)
    refine MJ ((Walks.list nY _ l f a).toS) s⁻¹
     C (fun i=>ns.getD i 0) g hb (a.size-0) 0 _ ω (AK _)
     ⟨⟨_,Al _ rfl,rfl,rfl⟩,⟨_,Ad _ N,rfl,u,rfl⟩⟩ ?hS0 ?hR
    case hS0=>
     have j:∀I,((s.heap.push {cls:=.type "set",dict:=none,data:=.set #[] 0 (.fresh 0 0 led)}).push I).get? s⁻¹
      =some {cls:=.type "set",dict:=none,data:=.set #[] 0 (.fresh 0 0 led)}:=fun I=>Ad _ M
     exact⟨_,#[],0,.fresh 0 0 led,j _,⟨rfl,rfl,rfl⟩,rfl,(by simpa using rv 0 0 led),fun e he=>by simp at he,List.Perm.refl _,List.nodup_nil,.inl ⟨rfl,AK _⟩,T.imp id fun z=>⟨z,rfl⟩⟩
    case hR=>
     intro s' hm p;obtain⟨h',g',d',Y,Z⟩:=s';have eg:g'=s.gens:=hm.gens;have ed:d'=s.drawn:=hm.drawn;have eo:Z=s.os:=hm.os;subst eg;subst ed;subst eo;show wpAny _ _ _ _ _ _;refine Ac ?_;show wpAny _ _ (ret Value.none) _ _ _;rw[x] at p;refine Ac ⟨rfl,h',Y,rfl,p,fun b o hb e=>?_⟩;have D:b≠s⁻¹:=Ao hb;have aU:b≠(s.heap.push {cls:=.type "set",dict:=none,data:=.set #[] 0 (.fresh 0 0 led)}).objs.size:=by
      rw[Heap.size_push];exact Ao (Be hb)
     exact hm.heap b o (by simp only[List.mem_cons,Bh,List.not_mem_nil,or_false,not_or];exact⟨D,aU⟩) (Ad _ (Ad _ e))
   ·cases P with
    |error e=>exact q
    |ok fl₂=>
     cases fl₂ with
     |ret r=>
      obtain⟨rfl,h',tk,rfl,p,hk'⟩:=q
      repeat(any_goals(first|assumption|wp_step))
      exact h _ _ p hk'
     |_=>exact q.elim
  |_=>exact hr.elim
end
end STb
namespace L2
open PySem PySem.Spec PyProof.Rows
def cQ(P:Program)(w:World)(D:Addr)(ns:List Int):HO:=.ext fun h=>STb.SI P w h D ns
section
variable{X:Cx}
def ML{P:Program}{w:World}{H:Hp}{h:Heap}{D:Addr}{ns:List Int}(x:STb.SI P w h D ns):zB P w H h D (cQ P w D ns):=
 ⟨x,(let ⟨o,_,_,_,h1,_⟩:=x;⟨o,h1⟩),fun h1 h2 y a=>y.keep fun o e=>a o e⟩
def Gz{aa:Ψ}{s:Shared}{σ:St}{H:Hp}{D:Addr}{ns:List Int}(I:Inv X aa σ H s)(e:H D=some (cQ X.prog X.w D ns)):STb.SI X.prog X.w s.heap D ns:=
 (show zB X.prog X.w H s.heap D (cQ X.prog X.w D ns) from I.hok D _ e).1
def GA:zU X (.builtin "len") (fun xs H Q=>∃D ns,xs=[.ref D]/\H D=some (cQ X.prog X.w D ns)/\Q (.int ns.length) H):=by
 intro aa s σ H xs us Q I r h;obtain⟨D,ns,rfl,hq,q⟩:=h;obtain⟨u,rfl,a⟩:=vals1 r;cases a;obtain⟨o,es,ep,t,h1,h2,c,T,_,hp,_,mk,_⟩:=Gz I hq;have d:es.size=ns.length:=by have:=hp.length_eq;simpa using this
 exact call_len_set h1 h2 c (STb.fits_of T) (by rcases mk with ⟨_,b⟩|⟨_,b⟩<;>omega) ⟨.int ns.length,H,I.tok _,⟨_,by rw[d]⟩,q⟩
def zO(hc:X.calm=true):zU X (.type "set") (fun xs H Q=>∃(l:Addr)(ns:List Int),xs=[.ref l]/\SqL X.K H l (ns.map V.int)/\ns.length<=18/\
  ∀D,H D=none->Q (.ref D) (upd H D (cQ X.prog X.w D (STb.dd ns)))):=by
 intro aa s σ H xs us Q I r h;obtain⟨l,ns,rfl,hq,hz,q⟩:=h;obtain⟨u,rfl,d⟩:=vals1 r;cases d;obtain⟨f,a,p1,_⟩:=I.list hq;have hi:=intsAre_of a;have g:f.length=ns.length:=by simpa using (A2 a).symm
 refine STb.MK (ns:=ns) (I.ok.hd hc) p1.isList (by simpa using hi) (by rw[Aj];omega) fun h' tk T c=>?_;exact⟨.ref s⁻¹,_,I.laid (o:=cQ X.prog X.w s⁻¹ (STb.dd ns)) (fun b u e=>c b u (Ak e) e) (Ag _) (ML T),rfl,q _ (I.hok.fresh (Ag _))⟩
end
end L2
end
section
namespace STb
open PySem PySem.SetTable PyProof.Rows
def ord(w:World)(S:Addr)(ep:Nat)(es:Array (Int×Value)):Array (Int×Value):=if w.params.followText "set-order"=true then pickOrder (w.params.setOrder S ep) es else es
def CB(w:World)(S:Addr)(ep:Nat)(es:Array (Int×Value)):(ord w S ep es).toList.Perm es.toList:=by
 unfold ord;split
 ·obtain⟨l,h1,h2⟩:=B8 (w.params.setOrder S ep) es.size 0 es.toList #[] (by simp)
  have:(pickOrder (w.params.setOrder S ep) es).toList=l:=by simpa[pickOrder] using h2
  rw[this];exact h1
 ·exact List.Perm.refl _
def MM{xs:Array Nat}(hr:Ris xs):below xs 0=0:=by
 obtain⟨h1,h2,_⟩:=n7 hr 0;rcases Nat.eq_zero_or_pos (below xs 0) with e|e
 ·exact e
 ·have hx:(0:Nat)<xs.size:=ω
  exact absurd (h2 0 xs[0] (getElem?_pos xs 0 hx) e) (Nat.not_lt_zero _)
def MN{xs:Array Nat}(hr:Ris xs){i j:Nat}(e:xs[i]?=some j):below xs (j+1)=i+1:=by
 obtain⟨h1,h2,c⟩:=n7 hr (j+1);have hi:i<xs.size:=(Array.getElem?_eq_some_iff.mp e).1;rcases Nat.lt_trichotomy (below xs (j+1)) (i+1) with q|q|q
 ·have:=c i j e ω;omega
 ·exact q
 ·have hx:i+1<xs.size:=ω
  have a:=h2 (i+1) xs[i+1] (getElem?_pos xs (i+1) hx) q;have b:=hr i (i+1) j xs[i+1] e (getElem?_pos xs (i+1) hx) ω;omega
def GB:Manifest.owners.lookup (String.ofList ['r','o','t','a','r','e','t','i','_','t','e','s'].reverse)=some Manifest.sig_set_iterator:=by kernel_rfl
def lR:Slot "set_iterator" "__next__" "set_iterator.__next__":=
 .of (owner:="set_iterator") (n:="__next__") (by rw[typeLookup_type,builtinLookup_eq_fast];kernel_rfl) δ δ δ
  (by first|exact .inl δ|exact .inr δ) (by rw[isSubtype_type];kernel_rfl)
def GC:entryFor table "set_iterator.__next__"=some Builtin.«set_iterator.__next__»:=entryFor_of_tree (by kernel_rfl)
def GD(a:Value):argsOk "set_iterator.__next__" ⟨[a],[]⟩:=by
 unfold argsOk;rw[signature?_of (id:="set_iterator.__next__") (n:=['_','_','t','x','e','n','_','_']) (o:=['r','o','t','a','r','e','t','i','_','t','e','s']) (by kernel_rfl) GB];kernel_rfl
def GE:Slot "set_iterator" "__iter__" "set_iterator.__iter__":=
 .of (owner:="set_iterator") (n:="__iter__") (by rw[typeLookup_type,builtinLookup_eq_fast];kernel_rfl) δ δ δ
  (by first|exact .inl δ|exact .inr δ) (by rw[isSubtype_type];kernel_rfl)
def MO:entryFor table "set_iterator.__iter__"=some Builtin.«dict_keyiterator.__iter__»:=
 entryFor_alias (id':="dict_keyiterator.__iter__") (by kernel_rfl) (by first|rfl|decide +kernel|(unfold String.splitOn;simp +decide [String.splitOnAux])) δ (by kernel_rfl)
def MP(a:Value):argsOk "set_iterator.__iter__" ⟨[a],[]⟩:=by
 unfold argsOk;rw[signature?_of (id:="set_iterator.__iter__") (n:=['_','_','r','e','t','i','_','_']) (o:=['r','o','t','a','r','e','t','i','_','t','e','s']) (by kernel_rfl) GB];kernel_rfl
def MQ:entryFor table "set.__iter__"=some Builtin.«frozenset.__iter__»:=
 entryFor_alias (id':="frozenset.__iter__") (by kernel_rfl) rfl δ (by kernel_rfl)
def GF(h:Heap)(I S:Addr)(slot i n ep:Nat):Prop:=h.get? I=some {cls:=.type "set_iterator",dict:=none,data:=.fields #[.int slot 0,.int i 0,.ref S,.int n 0,.int ep 0],slots:=#[]}
section
variable{prog:Program}{w:World}{A:Around}{E:Ω}{s:Shared}{I S:Addr}{o:Obj}{es:Array (Int×Value)}{ep:Nat}{t:SetTable}
def GG{slot i:Nat}{Q:Option (Value×Nat)->Shared->Prop}(b:s.heap.get? S=some o)(hd:o.data=.set es ep t)(T:Tb t (es.map (·.1)))(f:w.params.followText "set-order"=true\/(t.led=true/\t.plain=true))(hb:w.params.followText "set-order"≠true->below t.place slot=i)(h:∀r,(∀e,(ord w S ep es)[i]?=some e->∃nx,r=some (e.2,nx)/\(w.params.followText "set-order"≠true->below t.place nx=i+1))->((ord w S ep es)[i]?=none->r=none)->Q r s):wpAny (model prog w) A (setNext S slot i ep) Q E s:=by
 have a:=fits_of T;have hsz:t.place.size=es.size:=by rw[T.size,AY]
 unfold setNext;refine Aa (AZ b hd a ?_);dsimp only;refine Aa (m:=setsByText) ?_;unfold setsByText;refine Aa (wpAny_askSetting (Ac ?_))
 by_cases q:w.params.followText "set-order"=true
 ·show wpAny _ _ (if w.params.followText "set-order"=true then _ else _) _ _ _
  rw[if_pos q,if_neg (by simp)];refine Aa ?_;unfold setWalk;refine Aa (AZ b hd a ?_);dsimp only;refine Aa (m:=setsByText) ?_;unfold setsByText;refine Aa (wpAny_askSetting (Ac ?_));show wpAny _ _ (if w.params.followText "set-order"=true then _ else _) _ _ _;rw[if_pos q];refine Aa (wpAny_askSetting ?_);refine Ac (Ac (h _ (fun e he=>?_) fun he=>?_))
  ·have he':(pickOrder (w.params.setOrder S ep) es)[i]?=some e:=by unfold ord at he;rw[if_pos q] at he;exact he
   exact⟨slot,by show Option.map _ (pickOrder (w.params.setOrder S ep) es)[i]?=_;rw[he'];rfl,fun z=>absurd q z⟩
  ·have he':(pickOrder (w.params.setOrder S ep) es)[i]?=none:=by unfold ord at he;rw[if_pos q] at he;exact he
   show Option.map _ (pickOrder (w.params.setOrder S ep) es)[i]?=_;rw[he'];rfl
 ·show wpAny _ _ (if w.params.followText "set-order"=true then _ else _) _ _ _
  rw[if_neg q];obtain⟨c,w2⟩:=f.resolve_left q;have d:ord w S ep es=es:=by unfold ord;rw[if_neg q]
  rw[d] at h;show wpAny _ _ (if(!t.plain&&decide (es.size>1))=true then _ else _) _ _ _;rw[w2];simp only[A3,Bool.false_and,Ah,if_false];show wpAny _ _ ((if(!t.led&&!es.isEmpty)=true then _ else _) >>= _) _ _ _;rw[c];simp only[A3,Bool.false_and,Ah,if_false];refine Aa (Ac ?_);rw[hb q];refine Ac (h _ (fun e he=>?_) fun he=>?_)
  ·have hi:i<t.place.size:=by rw[hsz];exact(Array.getElem?_eq_some_iff.mp he).1
   have hp:t.place[i]?=some (t.place[i]'hi):=Array.getElem?_eq_getElem hi;rw[he,hp];exact⟨(t.place[i]'hi)+1,rfl,fun _=>MN T.ris hp⟩
  ·rw[he]
def MR(J:A.handled=none)(p:S≠I)(hd:o.data=.set es ep t)(T:Tb t (es.map (·.1)))(D:w.params.followText "set-order"=true\/(t.led=true/\t.plain=true)):Walks prog w A I [I,S] [I] es.size (fun i v=>((ord w S ep es)[i]?).map (·.2)=some v) (fun i h=>(∃slot,GF h I S slot i es.size ep/\(w.params.followText "set-order"≠true->below t.place slot=i))/\h.get? S=some o) where
 sub:=fun b hb=>by simp at hb;simp[hb]
 frame:=fun _ _ _ st hk=>by
  obtain⟨⟨slot,a,b⟩,c⟩:=st;exact⟨⟨slot,hk I (by simp) _ a,b⟩,hk S (by simp) _ c⟩
 item:=fun i s Q E hi st j=>by
  obtain⟨hp,g,l,tk,os⟩:=s;obtain⟨⟨slot,d,hb⟩,f⟩:=st;have hT:Shared.TypeIs ⟨hp,g,l,tk,os⟩ (.ref I) "set_iterator":=⟨_,d,rfl⟩;unfold pyNext;refine Aa (wpAny_attempt (AS (name:=Bm "__next__") hT lR (AC lR hT GC ?_ (GD _))));unfold Builtin.«set_iterator.__next__»;refine Aa (Ac ?_);refine Aa (wpAny_fieldsOf d rfl ?_);dsimp only;refine Aa (wpAny_setEntries_of f hd (fits_of T) ?_);rw[if_neg (by simp)]
  try dsimp only
  refine Aa ?_;rw[Bg,Bg,Bg];have hsz:(ord w S ep es).size=es.size:=by rw[<-Aw,(CB w S ep es).length_eq,Aw]
  have he:(ord w S ep es)[i]?=some (ord w S ep es)[i]:=getElem?_pos _ _ (by rw[hsz];exact hi);refine GG (s:=⟨hp,g,l,tk,os⟩) f hd T D hb fun r h1 _=>?_;obtain⟨nx,rfl,H⟩:=h1 _ he;dsimp only;refine Aa (wpAny_setField_rec d (by simp) fun x F q=>?_);replace q:AQ I hp x:=q;refine Aa (wpAny_setField_rec F (by simp) fun y G u=>?_);replace u:AQ I x y:=u;refine Ac ⟨_,rfl,Ac (j _ y tk (by rw[he];rfl) ⟨⟨nx,?_,H⟩,u.extBut _ _ p (q.extBut _ _ p f)⟩ fun b o hb e=>?_)⟩
  ·unfold GF
   have e:((i+1:Nat):Int)=(i:Int)+1:=ω
   rw[e]
   simpa[rawInt] using G
  ·have C:b≠I:=fun z=>hb (by simp[z])
   exact u.extBut b o C (q.extBut b o C e)
 done:=fun s Q E st j=>by
  obtain⟨hp,g,l,tk,os⟩:=s;obtain⟨⟨slot,d,hb⟩,f⟩:=st;have hT:Shared.TypeIs ⟨hp,g,l,tk,os⟩ (.ref I) "set_iterator":=⟨_,d,rfl⟩;unfold pyNext;refine Aa (wpAny_attempt (AS (name:=Bm "__next__") hT lR (AC lR hT GC ?_ (GD _))));unfold Builtin.«set_iterator.__next__»;refine Aa (Ac ?_);refine Aa (wpAny_fieldsOf d rfl ?_);dsimp only;refine Aa (wpAny_setEntries_of f hd (fits_of T) ?_);rw[if_neg (by simp)]
  try dsimp only
  refine Aa ?_;rw[Bg,Bg,Bg];have hsz:(ord w S ep es).size=es.size:=by rw[<-Aw,(CB w S ep es).length_eq,Aw]
  have he:(ord w S ep es)[es.size]?=none:=Array.getElem?_eq_none ω;refine GG (s:=⟨hp,g,l,tk,os⟩) f hd T D hb fun r _ h2=>?_;obtain rfl:=h2 he;dsimp only;refine Aa (Bk d rfl (by simp) ?_);refine Aa ?_;simp only[newExc,newTuple];refine Aa (AF ?_ (by size_fits));refine Aa (m:=firstArgMember _ _) (Bi (a:=Value.none) (by first|rfl|(simp only[firstArgMember];rfl)) ?_);refine AF ?_ (by size_fits);simp only[raiseNew];refine Aa (wpAny_handled ?_);rw[show A.in1.handled=none from J];refine Aa (Ac (wpAny_throw ?_));refine Aa (A8 (T:="StopIteration") (b:=true) ⟨_,Al _ rfl,rfl⟩ isSubtype_stop ?_);exact Ac (j _ tk fun b o hb e=>(((AL ..).extBut.push _).push _) b o (fun h=>hb (by simp[h])) e)
 self:=fun i s Q E st j=>by
  obtain⟨⟨slot,d,hb⟩,f⟩:=st;have hT:s.TypeIs (.ref I) "set_iterator":=⟨_,d,rfl⟩;refine wpAny_pyIter_slot hT GE (AC GE hT MO ?_ (MP _));show wpAny _ _ (ret (.ref I)) _ _ s;exact Ac ⟨_,rfl,"set_iterator",_,hT,lR.lookup,j⟩
def MS{Q:Ω}(a:s.heap.get? S=some o)(hex:o.ExactSet)(hd:o.data=.set es ep t)(T:Tb t (es.map (·.1)))(c:w.params.followText "set-order"=true\/(t.led=true/\t.plain=true))(f:Q (.ref s⁻¹) {s with heap:=s.heap.push {cls:=.type "set_iterator",data:=.fields #[.int 0 0,.int 0 0,.ref S,.int es.size 0,.int ep 0]}}):wpAny (model prog w) A (pyIter (.ref S)) Q E s:=by
 have hT:s.TypeIs (.ref S) "set":=⟨o,a,hex.1⟩;have b:=fits_of T;refine wpAny_pyIter_slot hT PySem.F.slot_set_iter (AC PySem.F.slot_set_iter hT MQ ?_ (PySem.F.args_set_iter_1 _));unfold Builtin.«frozenset.__iter__»;refine Aa (Aa (Ac (Ac ?_)));unfold Builtin.Frozenset.sizeOf;refine Aa (Aa (wpAny_setEntries_of a hd b (Ac ?_)));refine Aa ?_;unfold setDrawn;refine Aa (AZ a hd b ?_);dsimp only;refine Aa (m:=setsByText) ?_;unfold setsByText;refine Aa (wpAny_askSetting (Ac ?_));show wpAny _ _ (pure (!w.params.followText "set-order" && (!t.plain&&decide (es.size>1)))) _ _ _;have d:(!w.params.followText "set-order" && (!t.plain&&decide (es.size>1)))=false:=by
  rcases c with e|⟨_,e⟩<;>rw[e]<;>simp
 rw[d];refine Ac ?_;simp only[Ah,if_false];refine Aa (Ac ?_);refine Aa (wpAny_setEpoch_of a hd b ?_);unfold newFields;refine Aa (AF (Ac ⟨_,rfl,"set_iterator",_,⟨_,Al _ rfl,rfl⟩,lR.lookup,?_⟩) (by size_fits))
 simpa[rawInt] using f
def MT{Q:Bool->Shared->Prop}(hT:s.TypeIs (.ref S) "set")(h:Q false s):wpAny (model prog w) A (Builtin.List.listLengthHint (.ref S)) Q E s:=by
 unfold Builtin.List.listLengthHint;refine Aa (wpAny_specialOf hT PySem.F.slot_set_len.lookup ?_);generalize hid:("set.__len__":String)=id0
 wp_delta
 rw[show splitId id0=some ("set","__len__") from by subst hid;decide +kernel];subst hid;refine Aa (A8 (T:="set") (b:=true) hT (by rw[isSubtype_type];kernel_rfl) ?_);refine wpAny_ite_split (fun a=>absurd a ξ) (fun _=>?_);refine wpAny_ite_split (fun _=>?_) (fun a=>absurd δ a);refine Aa (wpAny_typeOf hT ?_);exact Ac h
end
end STb
end
section
namespace STb
open PySem PySem.SetTable PyProof.Rows bg PySem.W
section
variable{prog:Program}{w:World}{A:Around}{E:Ω}{s:Shared}{S:Addr}
def MU{o:Obj}{es:Array (Int×Value)}{ep:Nat}{t:SetTable}(hex:o.ExactSet)(hd:o.data=.set es ep t)(T:Tb t (es.map (·.1)))(a:w.params.followText "set-order"=true\/(t.led=true/\t.plain=true)):KdlSrc prog w "set" S S es.size (fun i v=>((ord w S ep es)[i]?).map (·.2)=some v) (fun h=>h.get? S=some o) where
 type:=fun s h=>⟨o,h,hex.1⟩
 there:=fun h e=>⟨Ak e,Ak e⟩
 keep:=fun h h' e k=>k S (.inl rfl) _ e
 notList:=ξ
 notTuple:=ξ
 hint:=fun A E s Q h q=>MT ⟨o,h,hex.1⟩ q
 iter:=fun A s b h=>⟨_,_,fun E Q q=>MS h hex hd T a q,MR (o:=o) b (Ao (Ak h)) hd T a,⟨⟨0,Al _ rfl,fun _=>MM T.ris⟩,Ad _ h⟩⟩
def GH{T:String}{r d:Addr}{n:Nat}{P:Nat->Value->Prop}{j:Heap->Prop}{R:List Value->Shared->Prop}(K:KdlSrc prog w T r d n P j)(p:A.handled=none)(i:j s.heap)(u:n<=sizeLine)(h:∀(h':Heap)(tk:Nat)(acc:Array Value),s⁻¹<=h'.objs.size->(∀b o,s.heap.get? b=some o->h'.get? b=some o)->ItemsOf P acc n->R acc.toList {s with heap:=h',toks:=tk}):wpAny (model prog w) A (collect (.ref r)) R E s:=by
 obtain⟨hr,hd⟩:=K.there _ i;unfold collect;refine Aa (wpAny_runValue (AW entry_proto_collect' ?_));rw[A4 PySem.F.plain_proto_collect _];show wpAny _ A.in1 (do again (.builtin "list.__iadd__" ⟨[<-newList [],.ref r],[]⟩)) _ _ s;refine Aa (AF (Ac ⟨plainId_quiet PySem.F.plain_list_iadd _,AW entry_list_iadd' ?_⟩));rw[A4 PySem.F.plain_list_iadd _];show wpAny _ A.in1 (Builtin.List.listExtendWith (.ref s⁻¹) (.ref r) (.ref s⁻¹)) _ _ _;have fin:∀(h':Heap)(tk:Nat)(acc:Array Value)(c:Nat),(∀b o,s.heap.get? b=some o->h'.get? b=some o)->h'.get? s⁻¹=some {cls:=.type "list",dict:=none,data:=.seq acc c,slots:=#[]}->ItemsOf P acc n->
   wpAny (model prog w) A (do match (<-load s⁻¹).data with
    |.seq xs _=>pure xs.toList
    |_=>unsupported "internal:collect") R E {s with heap:=h',toks:=tk}:=fun h' tk acc c hk a g=>Aa (wpAny_load a (Ac (h h' tk acc (Nat.le_of_lt (Ak a)) hk g)))
 refine wpAny_mono (kdl_extend (A:=A) (s:={s with heap:=s.heap.push {cls:=.type "list",data:=.seq ([]:List Value).toArray}})
  (R:=fun q s'=>∃h' tk acc c,q=Except.ok (Flow.ret (.ref s⁻¹))/\s'={s with heap:=h',toks:=tk}/\(∀b o,s.heap.get? b=some o->h'.get? b=some o)/\h'.get? s⁻¹=some {cls:=.type "list",dict:=none,data:=.seq acc c,slots:=#[]}/\ItemsOf P acc n)
  K p (K.keep _ _ i fun b _ o e=>Ad _ e) s⁻¹ (Nat.ne_of_gt hr) (Nat.ne_of_gt hd) (.ref s⁻¹) 0 (Al _ rfl)
  (fun h' tk acc c hk a g=>⟨h',tk,acc,c,rfl,rfl,fun b o e=>hk b o (Ao (Ak e)) (Ad _ e),a,g⟩) u) (fun f s' x=>?_) fun e s' x=>?_
 ·cases f with
  |done f=>
   obtain⟨h',tk,acc,c,e,rfl,hk,a,g⟩:=x;cases e;exact fin h' tk acc c hk a g
  |again c₁=>
   refine⟨x.1,Bc x.2 fun q v y=>?_⟩;obtain⟨h',tk,acc,c,rfl,rfl,hk,a,g⟩:=y;exact fin h' tk acc c hk a g
 ·obtain⟨_,_,_,_,l,_⟩:=x
  cases l
def MV{ns:List Int}{Q:Ω}(F:A.handled=none)(X:SI prog w s.heap S ns)(h:∀(D:Addr)(h':Heap)(tk e:Nat)(p:List Value)(ms:List Int)(out:Array Value),s⁻¹<=D->(∀b o,s.heap.get? b=some o->h'.get? b=some o)->h'.get? D=some (seqObj "list" out e)->IntsAre p ms->ms.Perm ns->Out (ms.map fun n=>[n]) p out.toList->Q (.ref D) {s with heap:=h',toks:=tk}):wpAny (model prog w) A (call (.builtin "sorted") [.ref S]) Q E s:=by
 obtain⟨o,es,ep,t,x,hex,hd,T,y,hp,G,mk,z⟩:=id X;have hz:es.size<=18:=by rcases mk with ⟨_,b⟩|⟨_,b⟩<;>omega
 refine Calls.call_function_entry kind_sorted plain_sorted entry_sorted (args_sorted1 _) ?_;unfold Builtin.«sorted»;refine Aa (m:=checkCount "sorted" 1 1 _) (Ac ?_);refine Aa (GH (A:=A.in1) (MU (prog:=prog) (S:=S) hex hd T z) F x (by rw[sizeLine_eq];omega) fun h' tk acc r hk f=>?_);have g:=CB w S ep es;have hsz:(ord w S ep es).toList.length=es.size:=by rw[g.length_eq,Aw]
 have C:acc.toList=(ord w S ep es).toList.map (·.2):=by
  apply List.ext_getElem?;intro j;rw[Ai,AE,AE];cases q:acc[j]? with
  |none=>
   have:es.size<=j:=by rw[<-f.1];exact Array.getElem?_eq_none_iff.mp q
   rw[Array.getElem?_eq_none (by rw[<-Aw,hsz];exact this)]
   rfl
  |some v=>exact(f.2 j v q).symm
 have a:ElemsOf (intKind prog w) (ord w S ep es).toList:=y.perm g;have hi:IntsAre acc.toList ((ord w S ep es).toList.map fun e=>iv e.2):=by
  rw[C];generalize (ord w S ep es).toList=l at a
  induction l with
  |nil=>exact .nil
  |cons e l ih=>
   obtain⟨n,t',e1⟩:=Gy a Av;subst e1;exact .cons n t' (ih a.tail)
 have d:((ord w S ep es).toList.map fun e=>iv e.2).Perm ns:=(g.map _).trans hp;generalize ((ord w S ep es).toList.map fun e=>iv e.2)=ms at hi d;have i:acc.toList.length=es.size:=by rw[Aw];exact f.1
 refine Aa (wpAny_newList ?_ (by rw[i,sizeLine_eq];omega));have c:(h'.push (seqObj "list" acc.toList.toArray 0)).get? h'.objs.size=some (seqObj "list" acc.toList.toArray 0):=Al _ rfl;refine Aa (AA (AC slot_list_sort ⟨_,c,rfl⟩ entry_list_sort (xf (s:={s with heap:=h'.push (seqObj "list" acc.toList.toArray 0),toks:=tk}) (good:=fun _=>True) c (w_ hi) (fun _ _=>trivial) (by rw[i,sizeLine_eq];omega) ω fun out u=>⟨_,rfl,?_⟩) (args_list_sort _)));obtain⟨e,he⟩:=sortedHeap_at (out:=out) c;refine Ac ⟨_,rfl,h h'.objs.size _ tk e acc.toList ms out r (fun b o e=>?_) he hi d u⟩;have hb:b<h'.objs.size:=Ak (hk b o e);rw[sortedHeap_old (Ao hb) (by rw[size_push'];exact Be hb)];exact Ad _ (hk b o e)
end
end STb
namespace L2
open PySem PySem.Spec PyProof.Rows
section
variable{X:Cx}
def GI{ns:List Int}{a:List Value}{out:List Value}(hi:IntsAre a ns)(c:bg.Out (ns.map fun n=>[n]) a out):∃ms:List Int,Vals (ms.map V.int) out/\ms.Perm ns/\ms.Pairwise (·<=·):=by
 obtain⟨ps,hp,c,hs⟩:=c;have d:a.length=ns.length:=hi.length;have all:∀p∈ps,∃n t,p.1=[n]/\p.2=Value.int n t:=fun p f=>by
  obtain⟨i,e⟩:=List.mem_iff_getElem?.mp (hp.mem_iff.mp f);rw[bg.bC,Ai] at e;cases e1:ns[i]? with
  |none=>rw[e1] at e;simp at e
  |some n=>
   obtain⟨t,e2⟩:=hi.get i n e1;rw[e1,e2] at e;simp only[A6,Option.bind_some,Bd] at e;subst e;exact⟨n,t,rfl,rfl⟩
 have g:∀ps:List (List Int×Value),(∀p∈ps,∃n t,p.1=[n]/\p.2=Value.int n t)->Vals ((ps.map fun p=>p.1.headD 0).map V.int) (ps.map (·.2)):=by
  intro ps
  induction ps with
  |nil=>intro _;exact .nil
  |cons p ps ih=>
   intro h;obtain⟨n,t,e1,e2⟩:=h p Av;refine .cons ?_ (ih fun q hq=>h q (Ay _ hq));show RelV (V.int (p.1.headD 0)) p.2;rw[e1,e2];exact⟨t,rfl⟩
 refine⟨ps.map fun p=>p.1.headD 0,by rw[c];exact g ps all,?_,?_⟩
 ·have h1:=hp.map (fun p:List Int×Value=>p.1.headD 0)
  have e:((ns.map fun n=>[n]).zip a).map (fun p:List Int×Value=>p.1.headD 0)=ns:=by
   rw[show(fun p:List Int×Value=>p.1.headD 0)=(fun l:List Int=>l.headD 0) ∘ Prod.fst from rfl,<-At,List.map_fst_zip (by rw[Ab];lia),At];exact List.map_id' ns
  rw[e] at h1;exact h1
 ·rw[Bf]
  refine hs.imp_of_mem fun{p q} h1 h2 b=>?_;obtain⟨n,t,e1,_⟩:=all p h1;obtain⟨m,t',e2,_⟩:=all q h2;rw[e1,e2,HT.zF] at b;rw[e1,e2];show n<=m
  by_cases e:m=n
  ·lia
  ·rw[if_neg e] at b
   have:=of_decide_eq_false b
   lia
def tH(hc:X.calm=true):zU X (.builtin "sorted") (fun xs H Q=>∃(S:Addr)(ns:List Int),xs=[.ref S]/\H S=some (cQ X.prog X.w S ns)/\∀(D:Addr)(ms:List Int),ms.Perm ns->ms.Pairwise (·<=·)->H D=none->Q (.ref D) (upd H D (.lst (ms.map V.int)))):=by
 intro aa s σ H xs us Q I r h;obtain⟨S,ns,rfl,hq,q⟩:=h;obtain⟨u,rfl,i⟩:=vals1 r;cases i;have d:=Gz I hq;refine STb.MV (I.ok.hd hc) d fun D h' tk e v ms out a f he hi hp g=>?_;obtain⟨ks,j,c,l⟩:=GI hi g;have hz:ks.length<=sizeLine:=by
  obtain⟨o,es,ep,t,_,_,_,_,_,p,_,mk,_⟩:=d;have hk:ks.length=es.size:=by simpa using c.length_eq.trans (hp.length_eq.trans p.length_eq.symm)
  rw[sizeLine_eq,hk];rcases mk with ⟨_,b⟩|⟨_,b⟩<;>omega
 refine⟨.ref D,_,I.laid (o:=.lst (ks.map V.int)) (fun b u e=>f b u e) a (show zB X.prog X.w _ _ _ (.lst (ks.map V.int)) from⟨by rw[Ab];exact hz,out.toList,e,j,by simpa using he⟩),rfl,q _ _ (c.trans hp) l (I.hok.fresh a)⟩
end
end L2
end
section
namespace STb
open PySem PySem.SetTable PyProof.Rows bg PySem.W
section
variable{prog:Program}{w:World}{A:Around}{E:Ω}{s:Shared}
def MW{T:String}{r d:Addr}{n:Nat}{P:Nat->Value->Prop}{j:Heap->Prop}{ns:List Int}{Q:Ω}(K:KdlSrc prog w T r d n P j)(q:A.handled=none)(c:j s.heap)(u:n<64)(hi:∀acc:Array Value,ItemsOf P acc n->IntsAre acc.toList ns)(h:∀(D:Addr)(h':Heap)(tk e:Nat)(i:List Value)(out:Array Value),s⁻¹<=D->(∀b o,s.heap.get? b=some o->h'.get? b=some o)->h'.get? D=some (seqObj "list" out e)->IntsAre i ns->Out (ns.map fun n=>[n]) i out.toList->Q (.ref D) {s with heap:=h',toks:=tk}):wpAny (model prog w) A (call (.builtin "sorted") [.ref r]) Q E s:=by
 refine Calls.call_function_entry kind_sorted plain_sorted entry_sorted (args_sorted1 _) ?_;unfold Builtin.«sorted»;refine Aa (m:=checkCount "sorted" 1 1 _) (Ac ?_);refine Aa (GH (A:=A.in1) K q c (by rw[sizeLine_eq];omega) fun h' tk acc l hk f=>?_);have hi:=hi acc f;have g:acc.toList.length=n:=by rw[Aw];exact f.1
 refine Aa (wpAny_newList ?_ (by rw[g,sizeLine_eq];omega));have a:(h'.push (seqObj "list" acc.toList.toArray 0)).get? h'.objs.size=some (seqObj "list" acc.toList.toArray 0):=Al _ rfl;refine Aa (AA (AC slot_list_sort ⟨_,a,rfl⟩ entry_list_sort (xf (s:={s with heap:=h'.push (seqObj "list" acc.toList.toArray 0),toks:=tk}) (good:=fun _=>True) a (w_ hi) (fun _ _=>trivial) (by rw[g,sizeLine_eq];omega) ω fun out p=>⟨_,rfl,?_⟩) (args_list_sort _)));obtain⟨e,he⟩:=sortedHeap_at (out:=out) a;refine Ac ⟨_,rfl,h h'.objs.size _ tk e acc.toList out l (fun b o e=>?_) he hi p⟩;have hb:b<h'.objs.size:=Ak (hk b o e);rw[sortedHeap_old (Ao hb) (by rw[size_push'];exact Be hb)];exact Ad _ (hk b o e)
end
end STb
namespace L2
open PySem PySem.Spec PyProof.Rows
section
variable{X:Cx}
abbrev dZ(ps:List (Int×V)):HO:=.dK (ps.map fun p=>(Sum.inl p.1,p.2))
def ints_of{ps:List (Int×V)}:∀{m:List (Key×Value)}{as:List Value},KV (ps.map fun p=>((Sum.inl p.1:Key),p.2)) m->as.length=m.length->(∀(i:Nat) v,as[i]?=some v->∃k x,m[i]?=some (k,x)/\(zt X.prog X.w).is k v=true)->IntsAre as (ps.map (·.1)):=by
 induction ps with
 |nil=>
  intro m as q h1 _;cases q;cases as with
  |nil=>exact .nil
  |cons _ _=>simp at h1
 |cons p ps ih=>
  intro m as q h1 h2;cases q with
  |@cons _ q' _ qs hq t=>
   cases as with
   |nil=>simp at h1
   |cons v as=>
    obtain⟨k,x,g1,g2⟩:=h2 0 v rfl;simp only[List.getElem?_cons_zero,Bd] at g1;have hk:(Sum.inl p.1:Key)=k:=by rw[g1] at hq;exact hq.1
    subst hk;obtain⟨t',e2⟩:∃t',v=Value.int p.1 t':=Em g2;subst e2;exact .cons _ _ (ih t (by simpa using h1) fun i v e=>by simpa using h2 (i+1) v (by simpa using e))
def MX(hc:X.calm=true):zU X (.builtin "sorted") (fun xs H Q=>∃a ps,xs=[.ref a]/\H a=some (dZ ps)/\ps.length<64/\∀(D:Addr)(ms:List Int),ms.Perm (ps.map (·.1))->ms.Pairwise (·<=·)->H D=none->Q (.ref D) (upd H D (.lst (ms.map V.int)))):=by
 intro aa s σ H xs us Q I r h;obtain⟨a,ps,rfl,hq,hz,q⟩:=h;obtain⟨u,rfl,l⟩:=vals1 r;cases l;obtain⟨z,y,vs,c,dd⟩:=wR I.hok hq;obtain⟨ep,dd⟩:=dd.dictAt;have C:ps.length=vs.length:=by simpa using c.length
 refine STb.MW (ns:=ps.map (·.1)) (PySem.W.kdl_dict (knd:=zt X.prog X.w) (kvs:=vs) (ep:=ep) y) (I.ok.hd hc) dd ω (fun acc it=>ints_of (X:=X) c (by simpa using it.1) fun i v e=>it.2 i v (by simpa using e)) fun D h' tk e A out d g he hi j=>?_;obtain⟨ks,p,f,x⟩:=GI hi j;have hk:ks.length=ps.length:=by simpa using f.length_eq
 refine⟨.ref D,_,I.laid (o:=.lst (ks.map V.int)) (fun b u e=>g b u e) d (show zB X.prog X.w _ _ _ (.lst (ks.map V.int)) from⟨by rw[Ab,sizeLine_eq];omega,out.toList,e,p,by simpa using he⟩),rfl,q _ _ f x (I.hok.fresh d)⟩
end
end L2
end
section
namespace L2
open PySem PySem.Spec PyProof.Rows
def GJ{P p:Program}{w j:World}{h:Heap}{a:Addr}{vs:List (Key×Value)}(d:h.DictOf (zt P w) a vs)(hk:∀kv∈vs,∃i:Int,kv.1=Sum.inl i):h.DictOf (zt p j) a vs:=by
 obtain⟨o,es,ep,h1,h2,r,s,b,u⟩:=d;have A:∀{l:List DictEntry}{m:List (Key×Value)},Pairs (zt P w) l m->Pairs (zt p j) l m:=by
  intro l m q
  induction q with
  |nil=>exact .nil
  |cons g1 g2 _ ih=>exact .cons g1 g2 ih
 refine⟨o,es,ep,h1,h2,r,fun e he=>?_,A b,u⟩;obtain⟨k,c,x⟩:=s e he;obtain⟨i,f⟩:=List.mem_iff_getElem?.mp (Array.mem_toList_iff.mpr he);have g:i<vs.length:=by
  have:=(List.getElem?_eq_some_iff.mp f).1;rw[b.length] at this;exact this
 obtain⟨g1,_⟩:=b.get? (i:=i) (e:=e) (k:=vs[i].1) (v:=vs[i].2) f (Af g);obtain⟨z,y⟩:=hk vs[i] (A9 g);obtain rfl:k=vs[i].1:=(zt P w).inj _ _ _ c g1;refine⟨vs[i].1,c,?_⟩;rw[x,y]
 rfl
def GK{ps:List (Int×V)}{vs:List (Key×Value)}(a:KV (ps.map fun p=>((Sum.inl p.1:Key),p.2)) vs):∀kv∈vs,∃i:Int,kv.1=Sum.inl i:=by
 induction ps generalizing vs with
 |nil=>cases a;exact fun kv h=>nomatch h
 |cons p ps ih=>
  cases a with
  |cons hq t=>
   intro kv hkv;rcases List.mem_cons.mp hkv with rfl|hkv
   ·exact⟨p.1,hq.1.symm⟩
   ·exact ih t kv hkv
def GL{K:Type}[DecidableEq K]{A:Around}{s:Shared}{a:List (K×Value)}:∀{l:List (K×Value)},(∀kv∈l,∃y,valueAt a kv.1=some y/\SeqAt.EqAt A s kv.2 y true)->PySem.W.KeqHits A s a l true
 |[],_=>.nil
 |(k,v)::r,h=>by
  obtain⟨y,h1,h2⟩:=h (k,v) Av;exact PySem.W.KeqHits.hit (e:=true) (b:=true) h1 h2 (GL fun kv hkv=>h kv (Ay _ hkv))
def MY{ns:List (Int×Int)}{k:Key}{x:V}(e:bv ((ns.map fun p=>(p.1,V.int p.2)).map fun p=>((Sum.inl p.1:Key),p.2)) k=some x):∃n,x=V.int n:=by
 induction ns with
 |nil=>exact nomatch e
 |cons p ns ih=>
  by_cases g:(Sum.inl p.1:Key)=k
  ·rw[Ax,Ax,nt g] at e
   exact⟨p.2,(An e).symm⟩
  ·rw[Ax,Ax,nu g] at e
   exact ih e
def MZ{P:Program}{w:World}{A:Around}{H:Hp}{s:Shared}{a b:Addr}{ns:List (Int×Int)}(ok:HOk P w H s.heap)(F:Rd H a (dZ (ns.map fun p=>(p.1,V.int p.2))))(hb:Rd H b (dZ (ns.map fun p=>(p.1,V.int p.2)))):(a==A0)=false/\(b==A0)=false/\∃c e,(∀g d,s.heap.DictOf (zt g d) a c)/\(∀g d,s.heap.DictOf (zt g d) b e)/\c.length=e.length/\PySem.W.KeqHits A s e c true:=by
 obtain⟨_,q,c,h,l⟩:=jj ok F;obtain⟨_,r,e,j,u⟩:=jj ok hb;refine⟨q,r,c,e,fun g d=>GJ l (GK h),fun g d=>GJ u (GK j),?_,GL fun kv hkv=>?_⟩
 ·have h1:=h.length
  have h2:=j.length;omega
 obtain⟨i,v⟩:=List.mem_iff_getElem?.mp hkv;obtain⟨_,_,_,_,_,_,_,_,z⟩:=l;have e1:valueAt c kv.1=some kv.2:=valueAt_of_get z (i:=i) v;have f:=h.val kv.1;have o:=j.val kv.1;rw[e1] at f;cases ex:bv ((ns.map fun p=>(p.1,V.int p.2)).map fun p=>((Sum.inl p.1:Key),p.2)) kv.1 with
 |none=>rw[ex] at f;exact(show False from f).elim
 |some x=>
  rw[ex] at f o;obtain⟨n,rfl⟩:=MY ex;obtain⟨y,e2,C⟩:=o.some_of;obtain⟨t,D⟩:=(show ∃t,kv.2=Value.int n t from f);obtain⟨t',E⟩:=(show ∃t,y=Value.int n t from C);refine⟨y,e2,?_⟩;rw[D,E];have:=SeqAt.EqAt.int_int (A:=A) (s:=s) n t n t'
  simpa using this
def M0{P:Program}{w:World}{A:Around}{H:Hp}{s:Shared}{a b:Addr}{ns:List (Int×Int)}(hu:A.units+64<cLine)(ok:HOk P w H s.heap)(o:Rd H a (dZ (ns.map fun p=>(p.1,V.int p.2))))(hb:Rd H b (dZ (ns.map fun p=>(p.1,V.int p.2)))):SeqAt.EqAt A s (.ref a) (.ref b) true:=by
 intro prog d E Q h;obtain⟨e,f,q,r,g,i,j,l⟩:=MZ (A:=A.in1) ok o hb;unfold eqBool
 try with_reducible refine AA ?_
 show wpAny _ _ (if(Value.ref a==Value.ref b)=true then _ else _) Q E s
 by_cases c:(Value.ref a==Value.ref b)=true
 ·rw[if_pos c]
  exact Aa (wpAny_rule (Ac h))
 ·rw[if_neg c]
  refine Aa (PySem.W.keq_eq e f (g prog d) (i prog d) ω (fun _=>l) ?_);rw[j,beq_self_eq_true,Bool.true_and];exact wpAny_truthy_bool h
inductive SV(K:Ae)(H:Hp):V->V->Prop where
 |lt {l m:Addr} {as bs:List Addr} {pss:Ξ} (hl:SqL K H l (as.map V.ref)) (hp:Tps H as pss) (hm:SqL K H m (bs.map V.ref)) (hq:Tps H bs pss):SV K H (.ref l) (.ref m)
 |dz {a b:Addr} {ns:List (Int×Int)} (ha:Rd H a (dZ (ns.map fun p=>(p.1,V.int p.2)))) (hb:Rd H b (dZ (ns.map fun p=>(p.1,V.int p.2)))):SV K H (.ref a) (.ref b)
 |dt {a b:Addr} {kvs:List (List Key×V)} {pss:Ξ} {ns:List Int} (ha:Rd H a (.dT kvs)) (hb:Rd H b (.dT kvs)) (hp:kvs.map (·.1)=pss.map (·.map Sum.inl)) (hv:kvs.map (·.2)=ns.map V.int):SV K H (.ref a) (.ref b)
section
variable{X:Cx}
def SV.eqAt{aa:Ψ}{σ:St}{H:Hp}{s:Shared}{x y:V}{u v:Value}(hu:X.A.units+128<cLine)(I:Inv X aa σ H s)(h:SV X.K H x y)(a:RelV x u)(b:RelV y v):SeqAt.EqAt X.A.in1 s u v true:=by
 cases h with
 |@lt l m as bs pss hl hp hm hq=>
  cases a;cases b;have hs:=yh pss;have:=SeqAt.eqAt_reads _ _ X.A.in1 s _ _ _ _ (rh I hl hp) (rh I hm hq) (SeqAt.canLay_of_shaped hs) (SeqAt.canLay_of_shaped hs) (SeqAt.room_of_shaped hs (by show X.A.units+1+64<cLine;omega));rw[<-SeqAt.same_eq_eqv _ _ (SeqAt.noMix_of_shape (.list (.tuples .int)) rfl _ _ (ri _) (ri _)),show same (.list (pss.map fun ps=>PyData.tuple (ps.map Bj))) (.list (pss.map fun ps=>PyData.tuple (ps.map Bj)))=true from by unfold same;rw[yk pss pss];exact decide_eq_true rfl] at this;exact this
 |dz ha hb=>
  cases a;cases b;exact M0 (by show X.A.units+1+64<cLine;omega) I.hok ha hb
 |dt ha hb hp hv=>
  cases a;cases b;exact Lh (by show X.A.units+1+64<cLine;omega) I.hok ha hb hp hv
def M3{aa:Ψ}{σ:St}{H:Hp}{s:Shared}(hu:X.A.units+128<cLine)(I:Inv X aa σ H s):∀{xs ys:List V}{us vs:List Value},Paired (SV X.K H) xs ys->Vals xs us->Vals ys vs->us.length=vs.length/\∀(j:Nat)(h1:j<us.length)(h2:j<vs.length),SeqAt.EqAt X.A.in1 s us[j] vs[j] true:=by
 intro xs ys us vs z
 induction z generalizing us vs with
 |nil=>intro a b;cases a;cases b;exact⟨rfl,fun j h=>absurd h (Nat.not_lt_zero j)⟩
 |cons hh t ih=>
  intro a b;cases a with
  |cons ra ta=>
   cases b with
   |cons rb tb=>
    obtain⟨g1,g2⟩:=ih ta tb;refine⟨by rw[Au,Au,g1],fun j h1 h2=>?_⟩;cases j with
    |zero=>exact hh.eqAt hu I ra rb
    |succ j=>exact g2 j (by simpa using h1) (by simpa using h2)
def M4(hu:X.A.units+128<cLine):bU X (compareOp .NotEq) (fun x y H Q=>∃(L M:Addr)(xs ys:List V),x=.ref L/\y=.ref M/\SqL X.K H L xs/\SqL X.K H M ys/\Paired (SV X.K H) xs ys/\Q (.bl false) H):=by
 intro aa s σ H x y v u Q I a b h;obtain⟨L,M,xs,ys,rfl,rfl,c,d,hp,q⟩:=h;cases a;cases b;obtain⟨i,f,p1,_⟩:=I.list c;obtain⟨l,g,p2,_⟩:=I.list d;obtain⟨g1,g2⟩:=M3 hu I hp f g;refine SeqAt.RcNeAt.lists (e:=fun _=>true) p1.isList p2.isList (by simpa using g1) ω (fun j h1 h2=>?_) X.prog X.w X.xe _ ⟨.bl _,H,I,rfl,?_⟩
 ·simpa using g2 j (by simpa using h1) (by simpa using h2)
 ·rw[List.all_eq_true.mpr (fun _ _=>rfl)];exact q
end
end L2
end
section
namespace DKp
open PySem PyProof.Rows DCp DPr
section
variable{prog:Program}{w:World}{A:Around}{E:Ω}{s:Shared}{K:Type}[DecidableEq K]{knd:KeyKind prog w K}
abbrev Pk(K:Type):Type:=Addr×K×Value×Value
def lT(knd:KeyKind prog w K)(h:Heap)(x:Pk K):Prop:=h.IsTuple x.1 #[x.2.2.1,x.2.2.2]/\knd.is x.2.1 x.2.2.1=true
def tK(xs:List (K×Value))(ts:List (Pk K)):List (K×Value):=ts.foldl (fun acc x=>stored acc x.2.1 x.2.2.2) xs
def GM{h h':Heap}{x:Pk K}{D I:Addr}(g:lT knd h x)(s:∃o,h.get? D=some o/\o.cls=.type "dict")(u:∃o,h.get? I=some o/\o.cls=.type "list_iterator")(v:∀b o,b≠D->b≠I->h.get? b=some o->h'.get? b=some o):lT knd h' x:=by
 obtain⟨⟨f,e1,e,i⟩,j⟩:=g;obtain⟨w,l,p⟩:=s;obtain⟨y,q,r⟩:=u;have ne:∀{a:Addr}{d:Obj},h.get? a=some d->d.cls=.type "tuple"->a≠D/\a≠I:=fun{a d} c ca=>by
  refine⟨fun z=>?_,fun z=>?_⟩
  ·rw[z,l] at c
   rw[<-An c,p] at ca;exact absurd ca ξ
  ·rw[z,q] at c
   rw[<-An c,r] at ca;exact absurd ca ξ
 exact⟨⟨f,v _ _ (ne e1 e).1 (ne e1 e).2 e1,e,i⟩,j⟩
def GN{h h':Heap}{D I:Addr}{xs:List (K×Value)}(d:h.DictOf knd D xs)(a:D≠I)(e:∀b o,b≠I->h.get? b=some o->h'.get? b=some o):h'.DictOf knd D xs:=by
 obtain⟨o,es,ep,c,r⟩:=d;exact⟨o,es,ep,e _ _ a c,r⟩
def M5{h h':Heap}{D:Addr}{xs:List (K×Value)}(d:h.DictOf knd D xs)(b:∀o,h.get? D=some o->h'.get? D=some o):h'.DictOf knd D xs:=by
 obtain⟨o,es,ep,a,r⟩:=d;exact⟨o,es,ep,b _ a,r⟩
def M6(xs:List (K×Value))(k:K)(v:Value):(stored xs k v).length<=xs.length+1:=by
 unfold stored;split
 ·rw[Ab];omega
 ·rw[As];simp
def o_{D I L:Addr}{ts:List (Pk K)}{R:Result->Shared->Prop}(u:A.handled=none)(hu:A.units+1<cLine)(h:D≠I)(F:L≠D)(y:L≠I):∀(k j:Nat)(s:Shared)(xs:List (K×Value)),ts.length-j=k->j<=ts.length->s.heap.IsListIter I L j->s.heap.IsList L (ts.map fun x=>Value.ref x.1).toArray->(∀x∈ts,lT knd s.heap x)->
   s.heap.DictOf knd D xs->xs.length+k<=sizeLine->
   (∀h' tk,h'.DictOf knd D (tK xs (ts.drop j))->(∀b o,b≠D->b≠I->s.heap.get? b=some o->h'.get? b=some o)->R (.ok (.ret .none)) {s with heap:=h',toks:=tk})->
   codeAny (model prog w) A (lp D I j) R s
 |0,j,s,xs,hk,hj,ao,hl,hg,hd,hz,hQ=>by
  have Q:j=ts.length:=ω
  subst Q;have W:=Walks.list (prog:=prog) (w:=w) (A:=A.in1) u I L y (ts.map fun x=>Value.ref x.1).toArray;refine AW s_ ?_;rw[A4 jA _];unfold Builtin.«dict.update.loop»;dsimp only[rawInt];refine Aa (W.done s _ _ ⟨by simpa using ao,hl⟩ fun h' tk c=>?_);dsimp only;unfold Builtin.Dict.addKeywords;refine Aa (Bi (a:=()) rfl ?_);obtain⟨l,p,q,_⟩:=ao;refine Ac (hQ h' tk ?_ fun b o _ hb e=>c b o (by simpa using hb) e);rw[List.drop_length];exact GN hd h fun b o hb e=>c b o (by simpa using hb) e
 |k+1,j,s,xs,hk,hj,ao,hl,hg,hd,hz,hQ=>by
  have W:=Walks.list (prog:=prog) (w:=w) (A:=A.in1) u I L y (ts.map fun x=>Value.ref x.1).toArray;have d:j<ts.length:=ω
  refine AW s_ ?_;rw[A4 jA _];unfold Builtin.«dict.update.loop»;dsimp only[rawInt];refine Aa (W.item j s _ _ (by simpa using d) ⟨ao,hl⟩ fun v h1 tk G z c=>?_);have S:v=.ref (ts[j]).1:=by
   have:(ts.map fun x=>Value.ref x.1).toArray[j]?=some (Value.ref (ts[j]).1):=by simp[d]
   exact An (G.symm.trans this)
  subst S;have X:=hg ts[j] (A9 d);obtain⟨l,p,q,_⟩:=id ao;have C:∃o,s.heap.get? D=some o/\o.cls=.type "dict":=by
   obtain⟨o,es,ep,N,hc,_⟩:=hd;exact⟨o,N,hc.1⟩
  have f:∀b o,b≠D->b≠I->s.heap.get? b=some o->h1.get? b=some o:=fun b o _ hb e=>c b o (by simpa using hb) e;have T:∀x∈ts,lT knd h1 x:=fun x hx=>GM (hg x hx) C ⟨l,p,q⟩ f;have U:h1.DictOf knd D xs:=GN hd h fun b o hb e=>c b o (by simpa using hb) e;obtain⟨O,P⟩:=T ts[j] (A9 d);dsimp only;refine Aa (AA (Aa (wpAny_tryCatch (pair_items (s:={s with heap:=h1,toks:=tk}) O ?_))));dsimp only;refine AA (wpAny_dictSet_pairs (knd:=knd) (s:={s with heap:=h1,toks:=tk}) (hsz:=by omega) P U fun h2 H i=>?_);have E:∀b o,b≠D->b≠I->s.heap.get? b=some o->h2.get? b=some o:=fun b o hb hi e=>by rw[i.2 b hb];exact f b o hb hi e
  have g:h2.IsListIter I L (j+1):=z.1.at fun o e=>by rw[i.2 I (Ne.symm h)];exact e
  have r:h2.IsList L (ts.map fun x=>Value.ref x.1).toArray:=z.2.at fun o e=>by rw[i.2 L F];exact e
  refine Ac ⟨plainId_quiet jA _,?_⟩;refine o_ u hu h F y k (j+1) {s with heap:=h2,toks:=_} _ ω ω g r (fun x hx=>GM (hg x hx) C ⟨l,p,q⟩ E) H (by have:=M6 xs (ts[j]).2.1 (ts[j]).2.2.2;omega) fun h' J M k3=>hQ h' J ?_ fun b o hb hi e=>k3 b o hb hi (E b o hb hi e);rw[List.drop_eq_getElem_cons d];exact M
def tL{L:Addr}{o:Obj}{n:Nat}{ts:List (Pk K)}{Q:Ω}(C:A.handled=none)(hu:A.units+2<cLine)(G:s.heap.get? L=some o)(hc:o.cls=.type "list")(H:o.data=.seq (ts.map fun x=>Value.ref x.1).toArray n)(U:o.dict=none)(W:∀x∈ts,lT knd s.heap x)(hz:ts.length<=sizeLine)(h:∀h' tk,h'.DictOf knd s⁻¹ (tK [] ts)->(∀b o,b<s⁻¹->s.heap.get? b=some o->h'.get? b=some o)->Q (.ref s⁻¹) {s with heap:=h',toks:=tk}):wpAny (model prog w) A (call (.type "dict") [.ref L]) Q E s:=by
 obtain⟨c,tl,X⟩:=zm.mro;have Y:=zm.made;have Z:=zm.sub;refine wpAny_call (codeAny_of_tree ?_);show wpAny _ _ (callAny (.type "dict") _) _ _ _;refine Ac ⟨Code.quiet_builtin _ δ,AW F.entry_type_call ?_⟩;rw[Around.under_plain (weight_type_call_type "dict" [.ref L] []) rfl];have h1:=zm.notType;have h2:=zm.canCreate;have ja:=B6 (.ref L)
 repeat(any_goals(first|assumption|wp_step))
 refine Bc (B7 (.ref L) (E:=E) (Q₁:=fun obj i=>obj=.ref s⁻¹/\i={s with heap:=s.heap.push {cls:=.type "dict",data:=.dict #[]}}) ⟨rfl,rfl⟩) fun r i hr=>?_;cases r with
 |error e=>exact hr
 |ok fl=>
  cases fl with
  |ret obj=>
   obtain⟨rfl,rfl⟩:=hr;have q:(s.heap.push {cls:=.type "dict",data:=.dict #[]}).get? s⁻¹=some {cls:=.type "dict",data:=.dict #[]}:=Al _ rfl;have u:Shared.TypeIs {s with heap:=s.heap.push {cls:=.type "dict",data:=.dict #[]}} (.ref s⁻¹) "dict":=⟨_,q,rfl⟩;have jZ:=zm.init.lookup;have jt:=zm.init.bind (.ref s⁻¹)
   repeat(any_goals(first|assumption|wp_step))
   refine Bc (codeAny_call_builtin (R:=wants (fun r j=>r=.none/\∃h' tk,j={s with heap:=h',toks:=tk}/\h'.DictOf knd s⁻¹ (tK [] ts)/\
     (∀b o,b<s⁻¹->s.heap.get? b=some o->h'.get? b=some o)) E) zm.init.plain F.entry_dict_init (zm.init.check _ _ _ _ _ _ _ _ u (F.args_dict_init_2 _ _) ?_)) fun J j d=>?_
   ·have v:L<s⁻¹:=Ak G
    have a:(s.heap.push {cls:=.type "dict",data:=.dict #[]}).get? L=some o:=Ad _ G;have S:Shared.TypeIs {s with heap:=s.heap.push {cls:=.type "dict",data:=.dict #[]}} (.ref L) "list":=⟨o,a,hc⟩;unfold Builtin.«dict.__init__»;refine Aa ?_;unfold Builtin.Dict.selfAndRest;refine Aa (wpAny_notOrdered_dict u ?_);refine Aa (show wpAny _ _ (pure s⁻¹) _ _ _ from Ac ?_);refine Ac ?_;show wpAny _ _ (Builtin.Dict.updateCommon "dict.__init__" "dict" s⁻¹ [Value.ref L] []) _ _ _;unfold Builtin.Dict.updateCommon Builtin.Dict.updateFrom;dsimp only;refine Aa (wpAny_typeOf S ?_);rw[if_pos ξ];refine Aa (FW (s:={s with heap:=s.heap.push {cls:=.type "dict",data:=.dict #[]}}) a hc H U C fun h2 l e2 x2=>?_);rw[if_pos (by rfl)];refine Aa (wpAny_rule ?_);have y:h2.IsList L (ts.map fun x=>Value.ref x.1).toArray:=⟨o,x2.keeps _ _ a,hc,n,H⟩;refine Aa (wpAny_pyIter_list (s:={s with heap:=h2,toks:=l}) y ?_);have T:h2.get? s⁻¹=some {cls:=.type "dict",data:=.dict #[]}:=x2.keeps _ _ q;have f:s⁻¹<h2.objs.size:=Ak T;have g:∀b ob,h2.get? b=some ob->(h2.push {cls:=.type "list_iterator",data:=.fields #[.ref L,.int 0 0]}).get? b=some ob:=fun b ob e=>Ad _ e;have z:∀b ob,s.heap.get? b=some ob->(h2.push {cls:=.type "list_iterator",data:=.fields #[.ref L,.int 0 0]}).get? b=some ob:=fun b ob e=>g _ _ (x2.keeps _ _ (Ad _ e));refine Ac ⟨plainId_quiet jA _,?_⟩;refine o_ (knd:=knd) (ts:=ts) (L:=L) (D:=s⁻¹) (I:=h2.objs.size) (by exact C) (by first|exact hu|(show A.units+1<cLine;omega)) (Ao f) (Ao v) (Ao (Nat.lt_trans v f)) ts.length 0 {s with heap:=h2.push {cls:=.type "list_iterator",data:=.fields #[.ref L,.int 0 0]},toks:=l} [] ω (AK _)
     ⟨_,Al _ rfl,rfl,rfl⟩ (y.at fun ob e=>g _ _ e) (fun x hx=>?_) (M5 (Heap.DictOf.new s.heap) fun ob e=>g _ _ (x2.keeps _ _ e)) (by simpa using hz) fun h' p dd k3=>⟨rfl,h',p,rfl,dd,fun b ob hb e=>k3 b ob (Ao hb) (Ao (Nat.lt_trans hb f)) (z _ _ e)⟩
    obtain⟨⟨M,e1,N⟩,O⟩:=W x hx;exact⟨⟨M,z _ _ e1,N⟩,O⟩
   ·cases J with
    |error e=>exact d
    |ok fl₂=>
     cases fl₂ with
     |ret r=>
      obtain⟨rfl,h',p,rfl,P,hk'⟩:=d
      repeat(any_goals(first|assumption|wp_step))
      exact h _ _ P hk'
     |_=>exact d.elim
  |_=>exact hr.elim
end
end DKp
namespace L2
open PySem PySem.Spec PyProof.Rows
def foldZ(kvs:List (Key×V)):List (Key×V):=kvs.foldl (fun acc kv=>putK acc kv.1 kv.2) []
section
variable{X:Cx}
def GO:∀(kvs acc:List (Key×V)),(kvs.foldl (fun acc kv=>putK acc kv.1 kv.2) acc).length<=acc.length+kvs.length
 |[],acc=>by simp
 |kv::r,acc=>by
  rw[List.foldl_cons];have h1:=GO r (putK acc kv.1 kv.2);have h2:=qZ acc kv.1 kv.2;rw[Au];omega
def tL(hc:X.calm=true)(hu:X.A.units+64<cLine):zU X (.type "dict") (fun xs H Q=>∃(l:Addr)(ts:List Addr)(kvs:List (Key×V)),xs=[.ref l]/\SqL X.K H l (ts.map V.ref)/\
  Paired (fun t(kv:Key×V)=>H t=some (.tup [kV kv.1,kv.2])) ts kvs/\∀D,H D=none->Q (.ref D) (upd H D (.dK (foldZ kvs)))):=by
 intro aa s σ H xs us Q I r h;obtain⟨l,ts,kvs,rfl,hq,hp,q⟩:=h;obtain⟨u,rfl,i⟩:=vals1 r;cases i;obtain⟨f,j,⟨o,n,e1,p,v,y⟩,hz⟩:=I.list hq;obtain rfl:=aT j;have L:=A2 hp;have get:∀{ts:List Addr}{kvs:List (Key×V)},Paired (fun t(kv:Key×V)=>H t=some (.tup [kV kv.1,kv.2])) ts kvs->
   ∃ps:List (DKp.Pk Key),ps.map (fun x=>Value.ref x.1)=ts.map Value.ref/\(∀x∈ps,DKp.lT (zt X.prog X.w) s.heap x)/\∀acc(ys:List (Key×Value)),KV acc ys->KV (kvs.foldl (fun acc kv=>putK acc kv.1 kv.2) acc) (DKp.tK ys ps):=by
  intro ts kvs z
  induction z with
  |nil=>exact⟨[],rfl,(fun x hx=>nomatch hx),fun acc ys k=>k⟩
  |@cons t kv ts kvs ht t' ih=>
   obtain⟨ps,g1,g2,g3⟩:=ih;obtain⟨f,C,E,_⟩:=I.tuple (SqT.of (K:=X.K) ht);obtain⟨a,c,e2,rk,F⟩:∃a c,f=[a,c]/\RelV (kV kv.1) a/\RelV kv.2 c:=by
    cases C with
    |cons ra rb=>
     cases rb with
     |cons rc rd=>
      cases rd;exact⟨_,_,rfl,ra,rc⟩
   subst e2;refine⟨(t,kv.1,a,c)::ps,by rw[Ax,Ax,g1],fun x hx=>?_,fun acc ys k=>?_⟩
   ·rcases List.mem_cons.mp hx with rfl|hx
    ·exact⟨E,nw rk⟩
    ·exact g2 x hx
   ·exact g3 _ _ (KV.put k kv.1 F)
 obtain⟨ps,g1,g2,g3⟩:=get hp;have G:ps.length=kvs.length:=by
  have:=congrArg List.length g1;rw[Ab,Ab] at this;omega
 rw[Ab] at hz;refine DKp.tL (knd:=zt X.prog X.w) (ts:=ps) (n:=n) (I.ok.hd hc) ω e1 p (by rw[g1];exact y) v g2 ω fun h' tk dd g=>?_;have d:=g3 [] [] .nil;have J:H s⁻¹=none:=I.hok.fresh (Ag _);refine⟨.ref s⁻¹,_,I.laid (o:=.dK (foldZ kvs)) (fun b u e=>g b u (Ak e) e) (Ag _) (dk_new ?_ (beq_eq_false_iff_ne.mpr (Nat.ne_of_gt I.big)) d dd),rfl,q _ J⟩;have:=GO kvs [];unfold foldZ;simp at this;omega
end
end L2
end
section
namespace K56
open K1
open PySem L2 STb
abbrev pu:Stmt:=top 36
abbrev tS:Stmt:=top 35
abbrev pw:Stmt:=top 57
abbrev zV(ns:List (Int×Int)):HO:=dZ (ns.map fun p=>(p.1,V.int p.2))
abbrev kZ(ns:List (Int×Int)):List (Key×V):=(ns.map fun p=>(p.1,V.int p.2)).map fun p=>((Sum.inl p.1:Key),p.2)
def nv(ns:List (Int×Int))(x:Int):Int:=((ns.find? fun p=>p.1=x).map (·.2)).getD 0
def M8{ns:List (Int×Int)}{x:Int}(h:x∈ns.map (·.1)):bv (kZ ns) (Sum.inl x)=some (V.int (nv ns x)):=by
 induction ns with
 |nil=>exact nomatch h
 |cons p ns ih=>
  unfold nv
  by_cases e:p.1=x
  ·subst e
   rw[kZ,Ax,Ax,nt rfl,List.find?_cons];simp
  ·have a:¬(Sum.inl p.1:Key)=Sum.inl x:=fun z=>e (Sum.inl.inj z)
   rw[kZ,Ax,Ax,nu a,List.find?_cons,decide_eq_false e];refine ih ?_;rcases List.mem_cons.mp h with h|h
   ·exact(e h.symm).elim
   ·exact h
def GP{H:Hp}{d:Addr}{ns:List (Int×Int)}{x:Int}(hd:Rd H d (zV ns))(h:x∈ns.map (·.1)):DGet H d (.int x) (some (.int (nv ns x))):=.inl ⟨kZ ns,Sum.inl x,hd,rfl,(M8 h).symm⟩
def kn(ns:List (Int×Int))(p:List Int):List Int:=(dd (p.map (nv ns))).mergeSort (·<=·)
section
variable{P:Program}{w:World}{K:Ae}{mg:Str->Option Value}{base:Heap}
def tT:Sp:=fun vs H Q _=>∃d a ns p,vs=[.ref d,.ref a]/\H d=some (zV ns)/\Tp H a p/\p.length<=10/\(∀x∈p,x∈ns.map (·.1))/\∀D H',Same H H'->H D=none->H' D=some (.lst ((p.map (nv ns)).map V.int))->Q (.ref D) H'
def M9:zn ["names","piece"] ["names","piece"] (zb pu):=⟨rfl,rfl,rfl,δ,rfl,δ,δ⟩
def lW{H2:Hp}{a d D:Addr}{p:List Int}{ns:List (Int×Int)}{Q:VK}(i:Tp H2 a p)(hd:H2 d=some (zV ns))(hz:p.length<=10)(l:∀x∈p,x∈ns.map (·.1))(g:H2 D=none)(k:∀c,Same H2 c->c D=some (.lst ((p.map (nv ns)).map V.int))->Q (.ref D) c):cG (jf K a) (cA 0) ci (nF (ax 1) (ax 0)) [none,some (.ref d)] H2 D Q:=by
 refine El (xs:=p.map V.int) (fun j σ ys c=>∃v,σ=[v,some (.ref d)]/\Same H2 c/\c D=some (.lst ys)/\ys=((p.map (nv ns)).take j).map V.int) ?_ ?_ ?_ ?_
 ·exact⟨none,rfl,Same.new g,ai,rfl⟩
 ·rintro j σ ys c ⟨v,rfl,f,b,rfl⟩
  exact SqT.of (f.tp i)
 ·rintro j σ ys c x hx h hy ⟨v,rfl,f,b,rfl⟩
  obtain⟨q,eq,rfl⟩:=ii hx;refine cJ ?_;refine⟨_,rfl,_,rfl,d,.int (nv ns q),rfl,GP (.inl (f _ _ hd)) (l q (Ap eq)),a9 (by rw[Ab];exact zf ω) h hy b ⟨_,rfl,f.then g,ai,?_⟩⟩;have e:(p.map (nv ns))[j]?=some (nv ns q):=by rw[Ai,eq];rfl
  rw[AM e,Am];rfl
 ·rintro σ ys c ⟨v,rfl,f,b,rfl⟩
  rw[Az (by simp)] at b;exact k c f b
def GQ{f:Addr}{fd:FuncData}(F:Fun K "names_along" "names_along" pu f fd)(B:Bt mg):FnOk P w K mg base aw 1 f fd ["names","piece"] tT:=by
 refine F.ok M9 (fun vs H Q E h=>?_) (fun cdv A outer s H vs Q E hr h=>?_)
 ·obtain⟨d,a,ns,p,rfl,_⟩:=h;rfl
 ·obtain⟨d,a,ns,p,rfl,hd,e,hp,l,k⟩:=h
  have hu:=dr hr;refine⟨_,zd (zr (zw ["names","piece"] ["point","names"] [none,some 0] (iq (pv 1)) (fun b C s₀ H₀ ex=>zk (i:=0) (bR ["point","names"]) rfl (Or.inl rfl)) (fun b C s₀ H₀ ex=>zH)
   (fun b C s₀ H₀ ex=>eT hu (pv 1) (pv 0) (fun _ _=>rfl)) (hfr:=bO (zb pu) δ))),?_⟩
  exact⟨_,rfl,a,rfl,⟨_,SqT.of e⟩,fun D c=>zy (lW e hd hp l c fun o g j=>k D o g c j)⟩
def GR{ns:List (Int×Int)}{p ms:List Int}(h1:ms.Perm (dd (p.map (nv ns))))(h2:ms.Pairwise (·<=·)):ms=kn ns p:=by
 refine List.Perm.eq_of_pairwise (le:=fun a b:Int=>a<=b) (fun a b _ _=>Int.le_antisymm) h2 ?_ (h1.trans (List.mergeSort_perm _ _).symm);exact(List.pairwise_mergeSort (le:=fun a b:Int=>decide (a<=b)) (fun a b c h1 h2=>by simp at *;omega) (fun a b=>by simp;omega) _).imp fun h=>by simpa using h
def GS:Sp:=fun vs H Q _=>∃d a ns p,vs=[.ref d,.ref a]/\H d=some (zV ns)/\Tp H a p/\p.length<=10/\(∀x∈p,x∈ns.map (·.1))/\∀t H',Same H H'->H t=none->Tp H' t (kn ns p)->Q (.ref t) H'
def M_:zn ["names","piece"] ["names","piece"] (zb tS):=⟨rfl,rfl,rfl,δ,rfl,δ,δ⟩
def M'{f fa:Addr}{fd c:FuncData}(F:Fun K "image_of" "image_of" tS f fd)(B:Bt mg)(Fa:Fun K "names_along" "names_along" pu fa c)(y:Binds K c ["names","piece"] [])(z:mg "names_along"=some (.ref fa)):FnOk P w K mg base aw 2 f fd ["names","piece"] GS:=by
 have G:FnOk P w K mg base aw 1 fa c ["names","piece"] tT:=GQ Fa B;refine F.ok M_ (fun vs H Q E h=>?_) (fun cdv A outer s H vs Q E hr h=>?_)
 ·obtain⟨d,a,ns,p,rfl,_⟩:=h;rfl
 ·obtain⟨d,a,ns,p,rfl,hd,r,hp,u,k⟩:=h
  refine⟨_,zd (zr (zj zE rfl B.tuple gG (ac (zh (tH rfl) rfl B.sorted gD (ac (zj (zO rfl) rfl B.set ia (ac
   (zq G hr rfl z Fa.kp y .nil am (ac (pv 0) (ac (pv 1) al))) al)) al)) al))),?_⟩
  refine⟨_,rfl,_,rfl,d,a,ns,p,rfl,hd,r,hp,u,fun D H1 i I h1=>?_⟩;refine⟨D,p.map (nv ns),rfl,SqL.of h1,by rw[Ab];omega,fun S j=>?_⟩;have v:=i.trans (Same.new (o:=cQ P w S (dd (p.map (nv ns)))) j);refine⟨S,dd (p.map (nv ns)),rfl,ai,fun C ms b l q=>?_⟩;have g:=v.trans (Same.new (o:=.lst (ms.map V.int)) q);refine⟨C,_,rfl,.inl ⟨SqL.of ai,fun t e=>?_⟩⟩;have x:=g.trans (Same.new (o:=.tup (ms.map V.int)) e);obtain rfl:=GR b l;exact k t _ x (g.free e) ai
end
abbrev pA:Stmt:=top 39
abbrev pC:Stmt:=top 38
def lX(x:Int)(l:List Int):Nat:=(l.filter fun y=>decide (y<x)).length
def falls:List Int->Nat
 |[]=>0
 |x::r=>lX x r+falls r
def jE(l:List Int)(k:Nat):Int:=lX (l.getD k 0) (l.drop (k+1))
def GT:∀l:List Int,((Ba l.length).map (jE l)).sum=(falls l:Int)
 |[]=>rfl
 |x::r=>by
  rw[Au,List.range_succ_eq_map,Ax,List.sum_cons,At];have e:(jE (x::r) ∘ Nat.succ)=jE r:=by
   funext k
   simp[jE,Function.comp]
  rw[e,GT r];simp[jE,falls]
section
variable{P:Program}{w:World}{K:Ae}{mg:Str->Option Value}{base:Heap}
def Na:zn ["piece","names"] ["piece","names"] (zb pw):=⟨rfl,rfl,rfl,δ,rfl,δ,δ⟩
def GU:Sp:=fun vs H Q _=>∃d a ns p,vs=[.ref a,.ref d]/\H d=some (zV ns)/\Tp H a p/\p.length<=10/\(∀x∈p,x∈ns.map (·.1))/\∀t H',Same H H'->H t=none->Tp H' t (kn ns p)->Q (.ref t) H'
def Nb{f:Addr}{fd:FuncData}(F:Fun K "_law_image" "_law_image" pw f fd)(B:Bt mg):FnOk P w K mg base aw 1 f fd ["piece","names"] GU:=by
 refine F.ok Na (fun vs H Q E h=>?_) (fun cdv A outer s H vs Q E hr h=>?_)
 ·obtain⟨d,a,ns,p,rfl,_⟩:=h;rfl
 ·obtain⟨d,a,ns,p,rfl,hd,g,hp,x,k⟩:=h
  have hu:=dr hr;refine⟨_,zd (zr (zj zE rfl B.tuple gG (ac (zh (tH rfl) rfl B.sorted gD (ac (zj (zO rfl) rfl B.set ia (ac
   (zw ["piece","names"] ["point","names"] [none,some 1] (iq (pv 0)) (fun c C s₀ H₀ ex=>zk (i:=0) (bR ["point","names"]) rfl (Or.inl rfl)) (fun c C s₀ H₀ ex=>zH)
   (fun c C s₀ H₀ ex=>eT hu (pv 1) (pv 0) (fun _ _=>rfl)) (hfr:=bO (zb pw) δ)) al)) al)) al))),?_⟩
  refine⟨_,rfl,a,rfl,⟨_,SqT.of g⟩,fun D l=>zy (lW g hd hp x l fun H1 q h1=>?_)⟩;refine⟨D,p.map (nv ns),rfl,SqL.of h1,by rw[Ab];omega,fun S r=>?_⟩;have y:=q.trans (Same.new (o:=cQ P w S (dd (p.map (nv ns)))) r);refine⟨S,dd (p.map (nv ns)),rfl,ai,fun G ms b u v=>?_⟩;have j:=y.trans (Same.new (o:=.lst (ms.map V.int)) v);refine⟨G,_,rfl,.inl ⟨SqL.of ai,fun t e=>?_⟩⟩;have z:=j.trans (Same.new (o:=.tup (ms.map V.int)) e);obtain rfl:=GR b u;exact k t _ z (j.free e) ai
def GV(K:Ae):Sp:=fun vs H Q _=>∃x l ns,vs=[.int x,.ref l]/\SqL K H l (ns.map V.int)/\ns.length<=10/\∀H',Same H H'->Q (.int (lX x ns)) H'
def Nc:zn ["point","some"] ["point","some"] (zb pA):=⟨rfl,rfl,rfl,δ,rfl,δ,δ⟩
def Nd{f:Addr}{fd:FuncData}(F:Fun K "less_than" "less_than" pA f fd)(B:Bt mg):FnOk P w K mg base aw 1 f fd ["point","some"] (GV K):=by
 refine F.ok Nc (fun vs H Q E h=>?_) (fun cdv A outer s H vs Q E hr h=>?_)
 ·obtain⟨x,l,ns,rfl,_⟩:=h;rfl
 ·obtain⟨x,l,ns,rfl,j,hz,k⟩:=h
  refine⟨_,zd (zr (zh zi rfl B.len zM (ac (zw ["point","some"] ["other","point"] [none,some 0] (zA (pv 1)) (fun e C s₀ H₀ ex=>zk (i:=0) (bR ["other","point"]) rfl (Or.inl rfl))
   (fun e C s₀ H₀ ex=>gh (zo kO (pv 0) (pv 1) (aq _))) (fun e C s₀ H₀ ex=>pv 0) (hfr:=bO (zb pA) δ)) al))),?_⟩
  refine⟨_,rfl,l,rfl,⟨_,j⟩,fun D g=>?_⟩;refine zy (zG (K:=K) (a:=l) (xs:=ns.map V.int) (fun i σ ys d=>∃v:Option V,σ=[v,some (.int x)]/\Same H d/\d D=some (.lst ys)/\ys=((ns.take i).filter fun y=>decide (y<x)).map V.int)
   ⟨none,rfl,Same.new g,ai,rfl⟩ (fun i σ ys d ⟨_,_,c,_⟩=>c.seq j) ?_ ?_)
  ·rintro i σ ys d z hx hi hy ⟨v,rfl,c,b,rfl⟩
   obtain⟨y,o,rfl⟩:=ii hx;refine⟨_,rfl,_,rfl,_,_,rfl,rfl,_,rfl,?_⟩
   by_cases h1:y<x
   ·rw[decide_eq_true h1]
    refine aX ⟨_,rfl,a9 (by rw[Ab];exact zf ω) hi hy b ⟨_,rfl,c.then g,ai,?_⟩⟩;rw[AM o,AV,Am];simp[h1]
   ·rw[decide_eq_false h1]
    refine aH (cS hi hy ⟨_,rfl,c,b,?_⟩);rw[AM o,AV,Am];simp[h1]
  ·rintro σ ys d ⟨v,rfl,c,b,rfl⟩
   rw[Ab,take_all] at b;refine⟨D,_,rfl,.inl (SqL.of b),?_⟩;rw[Ab];exact k d c
def GW(K:Ae):Sp:=fun vs H Q _=>∃l ns,vs=[.ref l]/\H l=some (.lst (ns.map V.int))/\ns.length<=10/\∀H',Same H H'->Q (.int (falls ns)) H'
def Nf:zn ["some"] ["some"] (zb pC):=⟨rfl,rfl,rfl,δ,rfl,δ,δ⟩
def Ng{f z:Addr}{fd G:FuncData}(F:Fun K "falls_in" "falls_in" pC f fd)(B:Bt mg)(Z:mg "sum"=none)(mz:AX "sum"=some (.builtin "sum"))(Fl:Fun K "less_than" "less_than" pA z G)(bl:Binds K G ["point","some"] [])(ml:mg "less_than"=some (.ref z)):FnOk P w K mg base aw 2 f fd ["some"] (GW K):=by
 have Gl:FnOk P w K mg base aw 1 z G ["point","some"] (GV K):=Nd Fl B;refine F.ok Nf (fun vs H Q E h=>?_) (fun cdv A outer s H vs Q E hr h=>?_)
 ·obtain⟨l,ns,rfl,_⟩:=h;rfl
 ·obtain⟨l,ns,rfl,v,hz,k⟩:=h
  refine⟨_,zd (zr (zh (Mg rfl) rfl Z mz (ac (zw ["some"] ["k","point","some"] [none,none,some 0] (JR rfl B.enumerate Kz (ac (pv 0) al))
   (fun I C s₀ H₀ ex=>mS rfl (fX (zk (i:=0) (bR ["k","point","some"]) rfl (Or.inl rfl)) (fX (zk (i:=1) (bR ["k","point","some"]) rfl (Or.inl rfl)) mQ)))
   (fun I C s₀ H₀ ex=>zH) (fun I C s₀ H₀ ex=>zq Gl hr rfl ml Fl.kp bl .nil am (ac (pv 1) (ac (jT (r:=nk K) qR (pv 2) (jS (zD dY (pv 0) ze)) jR) al)))
   (hfr:=bO (zb pC) δ) (g:=jM K 2 (mP (cA 0) (mP (cA 1) jK)))) al))),?_⟩
  refine⟨_,rfl,l,rfl,⟨_,SqL.of v⟩,fun D J=>?_⟩;refine zy (jr ns.length (fun j σ ys c=>∃(d u:Option V),σ=[d,u,some (.ref l)]/\Same H c/\c D=some (.lst ys)/\ys=(((Ba ns.length).map (jE ns)).take j).map V.int) ?_ ?_ ?_ ?_ ?_)
  ·exact⟨none,none,rfl,Same.new J,ai,rfl⟩
  ·rintro σ ys c ⟨d,u,rfl,b,a,rfl⟩
   exact⟨_,SqL.of (b _ _ v),by rw[Ab]⟩
  ·rintro i σ ys c hi ⟨d,u,rfl,b,a,rfl⟩
   exact⟨_,SqL.of (b _ _ v),by rw[Ab];exact hi⟩
  ·rintro i σ ys c x H' hi hy ⟨d,u,rfl,b,a,rfl⟩ ⟨p,y,rfl,S,rfl,T⟩
   have U:=T _ (SqL.of (b _ _ v));obtain⟨q,eq,rfl⟩:=ii U;have L:=Same.new (o:=.tup [.int i,.int q]) S;have W:=L _ _ (b _ _ v);refine⟨p,_,rfl,SqT.of ai,rfl,_,_,rfl,_,_,rfl,rfl,j9 ?_⟩;refine⟨_,rfl,_,rfl,_,rfl,_,_,rfl,rfl,_,rfl,l,_,rfl,SqL.of W,fun p2 N=>?_⟩;have X:=L.trans (Same.new (o:=.lst (br (ns.map V.int) (some ((i:Int)+1)) none)) N);have Y:br (ns.map V.int) (some ((i:Int)+1)) none=(ns.drop (i+1)).map V.int:=by
    rw[show(i:Int)+1=((i+1:Nat):Int) from ω,ki _ _ (by rw[Ab];omega),List.map_drop]
   refine⟨q,p2,ns.drop (i+1),rfl,SqL.of (by rw[ai,Y]),by rw[List.length_drop];omega,fun H5 O=>?_⟩;have M:=X.trans O;have e:((Ba ns.length).map (jE ns))[i]?=some (lX q (ns.drop (i+1)):Int):=by
    rw[Ai,List.getElem?_range hi,A6];unfold jE;rw[AR,eq]
    rfl
   exact a9 (zf ω) hi hy (M _ _ a) ⟨_,_,rfl,(b.trans M).then J,ai,by rw[AM e,Am];rfl⟩
  ·rintro σ ys c ⟨d,u,rfl,b,a,rfl⟩
   rw[Az (by simp)] at a;refine⟨D,_,rfl,SqL.of a,?_⟩;rw[GT];exact k c b
end
abbrev CC:Stmt:=top 37
def GX(l:List Int):((dd l).length=l.length->l.Nodup)/\(l.Nodup->dd l=l):=pj (P:=fun l:List Int=>((dd l).length=l.length->l.Nodup)/\(l.Nodup->dd l=l)) ⟨fun _=>List.nodup_nil,fun _=>rfl⟩ (fun l x b=>by
 have d:=fj l;have e:((l++[x]).Nodup)↔(l.Nodup/\x∉l):=by
  rw[List.nodup_append];simp;intro _;exact⟨fun h z=>h x z rfl,fun h a c e=>h (e▸c)⟩
 rw[hY,e]
 by_cases h:x∈dd l
 ·rw[if_pos h]
  refine⟨fun z=>?_,fun z=>absurd ((gv _ _).mp h) z.2⟩;rw[As,List.length_singleton] at z;omega
 ·rw[if_neg h]
  refine⟨fun z=>?_,fun z=>by rw[b.2 z.1]⟩;rw[As,As] at z;exact⟨b.1 ω,fun q=>h ((gv _ _).mpr q)⟩) l
def CD(l:List Int):(dd l).length<l.length↔¬l.Nodup:=by
 have h:=GX l;have a:=fj l;constructor
 ·intro z n
  rw[h.2 n] at z;omega
 ·intro z
  rcases Nat.lt_or_ge (dd l).length l.length with q|q
  ·exact q
  ·exact absurd (h.1 ω) z
def jF(l:List Int):List Int:=l.mergeSort (·<=·)
def GY{l ms:List Int}(h1:ms.Perm l)(h2:ms.Pairwise (·<=·)):ms=jF l:=by
 refine List.Perm.eq_of_pairwise (le:=fun a b:Int=>a<=b) (fun a b _ _=>Int.le_antisymm) h2 ?_ (h1.trans (List.mergeSort_perm _ _).symm);exact(List.pairwise_mergeSort (le:=fun a b:Int=>decide (a<=b)) (fun a b c h1 h2=>by simp at *;omega) (fun a b=>by simp;omega) _).imp fun h=>by simpa using h
def im(l:List Int)(n:Int):Ch:=if l.Nodup then [(jF l,sg (falls l) n)] else []
def GZ(l:List Int)(n:Int):(im l n).length<=1:=by unfold im;split<;>simp
section
variable{P:Program}{w:World}{K:Ae}{mg:Str->Option Value}{base:Heap}
def G0:Sp:=fun vs H Q _=>∃l ns n,vs=[.ref l,.int n]/\H l=some (.lst (ns.map V.int))/\ns.length<=10/\∀D H2(ts:List Addr),Same H H2->H D=none->H2 D=some (.lst (ts.map V.ref))->Prs H2 ts (im ns n)->Q (.ref D) H2
def Nh:zn ["some","weight"] ["some","weight"] (zb CC):=⟨rfl,rfl,rfl,δ,rfl,δ,δ⟩
def Ni{f q:Addr}{fd r:FuncData}(F:Fun K "risen_terms" "risen_terms" CC f fd)(B:Bt mg)(Fl:Fun K "falls_in" "falls_in" pC q r)(bl:Binds K r ["some"] [])(N:mg "falls_in"=some (.ref q))(Gl:FnOk P w K mg base aw 2 q r ["some"] (GW K)):FnOk P w K mg base aw 3 f fd ["some","weight"] G0:=by
 refine F.ok Nh (fun vs H Q E h=>?_) (fun cdv A outer s H vs Q E hr h=>?_)
 ·obtain⟨l,ns,n,rfl,_⟩:=h;rfl
 ·obtain⟨l,ns,n,rfl,e,hz,k⟩:=h
  refine⟨_,za (zN (zo kO (zh GA rfl B.len zM (ac (zj (zO rfl) rfl B.set ia (ac (pv 0) al)) al)) (zh zi rfl B.len zM (ac (pv 0) al)) (aq _)) (zd (zr (zQ al))) zv)
   (zd (zr (zQ (ac (fQ (ac (zj zE rfl B.tuple gG (ac (zh rj rfl B.sorted gD (ac (pv 0) al)) al))
    (ac (vx (zo c_ (zD gb (zq Gl hr rfl N Fl.kp bl .nil am (ac (pv 0) al)) ze) ze (aq _)) (pv 1) (qq qz (pv 1))) al))) al)))),?_⟩
  refine⟨_,rfl,l,ns,rfl,SqL.of e,ω,fun S G=>⟨S,_,rfl,ai,?_⟩⟩;have c:=Same.new (o:=cQ P w S (dd ns)) G;refine⟨_,rfl,l,_,rfl,.inl (SqL.of (c _ _ e)),_,_,rfl,rfl,_,rfl,?_⟩;rw[Ab]
  by_cases g:ns.Nodup
  ·rw[decide_eq_false (fun z=>(CD ns).mp ω g)]
   refine aH ⟨_,rfl,l,ns,rfl,SqL.of (c _ _ e),ω,fun D ms hp hs d=>?_⟩;have L:=c.trans (Same.new (o:=.lst (ms.map V.int)) d);refine⟨D,_,rfl,.inl ⟨SqL.of ai,fun t I=>?_⟩⟩;have y:=L.trans (Same.new (o:=.tup (ms.map V.int)) I);obtain rfl:=GY hp hs;refine⟨_,rfl,l,ns,rfl,y _ _ e,hz,fun i x=>?_⟩;have M:Tp i t (jF ns):=x _ _ ai;have C:=y.trans x;have fin:∀(u:Addr)(v:Int),v=sg (falls ns) n->i u=none->∀a,upd i u (.tup [.ref t,.int v]) a=none->Q (.ref a) (upd (upd i u (.tup [.ref t,.int v])) a (.lst [.ref u])):=by
    intro u v J hu a b;have j:=Same.new (o:=.tup [.ref t,.int v]) hu;have p:=Same.new (o:=.lst [.ref u]) b;refine k a _ [u] ((C.trans j).trans p) ((C.trans j).free b) ai ?_;unfold im;rw[if_pos g];exact .cons ⟨t,by rw[<-J];exact p _ _ ai,p.tp (j.tp M)⟩ .nil
   refine⟨_,_,rfl,rfl,(by show(0:Int)<2;decide),rfl,_,rfl,?_⟩
   by_cases hk:((falls ns:Nat):Int)%2=0
   ·rw[decide_eq_true (congrArg V.int hk)]
    exact aX ⟨_,rfl,zf (by simp),fun u hu=>⟨zf (by simp),fun a b=>fin u n (by unfold sg;rw[if_pos hk]) hu a b⟩⟩
   ·rw[decide_eq_false (fun z=>hk (by injection z))]
    exact aH ⟨_,rfl,_,rfl,zf (by simp),fun u hu=>⟨zf (by simp),fun a b=>fin u (-n) (by unfold sg;rw[if_neg hk]) hu a b⟩⟩
  ·rw[decide_eq_true (by have:=(CD ns).mpr g;omega)]
   refine aX ⟨zf (by simp),fun D d=>k D _ [] (c.trans (Same.new d)) (c.free d) ai ?_⟩;unfold im;rw[if_neg g];exact .nil
end
abbrev tW:Stmt:=top 33
abbrev CF:Stmt:=top 34
abbrev tX:Stmt:=top 58
def dots(a:Ξ):List Int:=(a.filter fun p=>decide (p.length=1)).map (·.headD 0)
def lY(l:Ξ)(p:List Int):dots (l++[p])=dots l++if p.length=1 then [p.headD 0] else []:=by
 unfold dots;rw[AV,Am]
 by_cases h:p.length=1<;>simp[h]
def l5(a:Ξ):(dots a).length<=a.length:=by unfold dots;rw[Ab];exact List.length_filter_le _ _
def G1(pss:Ξ):(dots (canon pss)).Pairwise (·<=·):=by
 unfold dots;rw[Bf];refine((FO pss).sublist List.filter_sublist).imp_of_mem fun{a b} d hb h=>?_;have e:a.length=1:=by simpa using (List.mem_filter.mp d).2
 have f:b.length=1:=by simpa using (List.mem_filter.mp hb).2
 match a,b,e,f with
 |[x],[y],_,_=>
  show x<=y;rcases Int.lt_or_le y x with q|q
  ·exfalso
   have h2:HT.lexLt (key [y]) (key [x])=false:=by simpa[kle] using h
   have c:HT.lexLt [1,y] [1,x]=false:=h2;rw[HT.zF,if_pos rfl,HT.zF,if_neg ω] at c;exact of_decide_eq_false c q
  ·exact q
def c9(ns:List (Int×Int))(a there:Ξ):Bool:=a.all fun p=>decide (kn ns p∈there)
def gS{pss:Ξ}{p:List Int}{x:Int}(hp:p∈canon pss)(hx:x∈p):x∈dots (canon pss):=by
 obtain⟨t,a,hs⟩:=List.mem_flatMap.mp (sr.mp hp);have h1:[x]∈canon pss:=sr.mpr (List.mem_flatMap.mpr ⟨t,a,z0.mpr ⟨by simp,(List.singleton_sublist.mpr hx).trans (z0.mp hs).2⟩⟩);exact List.mem_map.mpr ⟨[x],List.mem_filter.mpr ⟨h1,by simp⟩,rfl⟩
abbrev kq(K:Ae):TT:=hU (cb nh (eQ (fun xs H Q=>∃p ys,xs=[.ref p]/\(SqL K H p ys\/SqT K H p ys)/\Q (.int ys.length) H) (zJ (ax 0) a8)) (tC (.int 1)))
abbrev t2(K:Ae):TE:=cb (dD K) (ax 0) (tC (.int 0))
section
variable{P:Program}{w:World}{K:Ae}{mg:Str->Option Value}{base:Heap}
def CG{H2:Hp}{L D:Addr}{as:List Addr}{d:Ξ}{Q:VK}(q:SqL K H2 L (as.map V.ref))(g:Tps H2 as d)(hz:d.length<=1000)(h:H2 D=none)(k:∀b,Same H2 b->b D=some (.lst ((dots d).map V.int))->Q (.ref D) b):cG (dv K L) (cA 0) (kq K) (t2 K) [none] H2 D Q:=by
 have p:=g.length;refine zG (xs:=as.map V.ref) (fun i σ ys b=>∃v:Option V,σ=[v]/\Same H2 b/\b D=some (.lst ys)/\ys=(dots (d.take i)).map V.int)
  ⟨none,rfl,Same.new h,ai,rfl⟩ (fun i σ ys b ⟨_,_,c,_⟩=>c.seq q) ?_ ?_
 ·rintro i σ ys b z hx hi hy ⟨v,rfl,c,a,rfl⟩
  obtain⟨t,l,rfl⟩:=zR hx;obtain⟨ps,e,o⟩:=g.get l;have f:=c.tp o;refine⟨_,rfl,t,_,rfl,.inr (SqT.of f),rfl,_,rfl,?_⟩;rw[show(ps.map V.int).length=ps.length from Ab _]
  by_cases h1:ps.length=1
  ·rw[decide_eq_true (by rw[h1];rfl)]
   match ps,h1 with
   |[x],_=>
    refine aX ⟨_,rfl,t,_,0,.int x,rfl,rfl,SqT.of f,zu (j:=0) rfl,a9 (by rw[Ab];exact zf ω) hi hy a ⟨_,rfl,c.then h,ai,?_⟩⟩;rw[AM e,lY,Am];rfl
  ·rw[decide_eq_false (fun z=>h1 (by injection z with z;omega))]
   refine aH (cS hi hy ⟨_,rfl,c,a,?_⟩);rw[AM e,lY,if_neg h1,List.append_nil]
 ·rintro σ ys b ⟨v,rfl,c,a,rfl⟩
  rw[Ab,p,take_all] at a;exact k b c a
def G2{H:Hp}{l m:Addr}{ns:List Int}{Q:VK}(h1:SqL K H l (ns.map V.int))(h2:SqL K H m (ns.map V.int))(q:Q (.bl false) H):oG true K (.ref l) (.ref m) H Q:=by
 refine⟨kb ns,kb ns,FD h1,FD h2,PySem.W.shaped_ints ns,PySem.W.shaped_ints ns,Lq ns ns,?_⟩;rw[Lp,decide_eq_true rfl];exact q
def G3(K:Ae):Sp:=fun vs H Q _=>∃KN TH m ks ts ns a pss there,vs=[.ref KN,.ref TH,.ref m]/\SqL K H KN (ks.map V.ref)/\Tps H ks a/\a=canon pss/\a.length<64/\(∀p∈a,p.length<=5)/\SqL K H TH (ts.map V.ref)/\Tps H ts there/\H m=some (zV ns)/\ns.map (·.1)=dots a/\
 ∀H',Same H H'->Q (.bl (c9 ns a there)) H'
def Nj:zn ["known","there","names"] ["known","there","names"] (zb tX):=⟨rfl,rfl,rfl,δ,rfl,δ,δ⟩
def CI{H2:Hp}{KN D:Addr}{ks:List Addr}{g:List Int->Bool}{d:Ξ}{te:TE}{f:List (Option V)}{Q:VK}(hk:SqL K H2 KN (ks.map V.ref))(l:Tps H2 ks d)(hz:d.length<=1000)(s:∀(t:Addr)(p:List Int)(a:Hp)(q:VK),p∈d->Tp a t p->Same H2 a->(∀h,Same a h->q (.bl (g p)) h)->te (some (.ref t)::f) a q)(o:H2 D=none)(k:∀a,Same H2 a->a D=some (.lst ((d.map g).map V.bl))->Q (.ref D) a):cG (dv K KN) (cA 0) ci te (none::f) H2 D Q:=by
 have u:=l.length;refine zG (xs:=ks.map V.ref) (fun i σ ys a=>∃v:Option V,σ=v::f/\Same H2 a/\a D=some (.lst ys)/\ys=((d.map g).take i).map V.bl)
  ⟨none,rfl,Same.new o,ai,rfl⟩ (fun i σ ys a ⟨_,_,c,_⟩=>c.seq hk) ?_ ?_
 ·rintro i σ ys a z hx hi hy ⟨v,rfl,c,b,rfl⟩
  obtain⟨t,r,rfl⟩:=zR hx;obtain⟨p,ep,hp⟩:=l.get r;refine cJ ?_;refine s t p a _ (Ap ep) (c.tp hp) c fun h j=>?_;have e:(d.map g)[i]?=some (g p):=by rw[Ai,ep];rfl
  exact a9 (by rw[Ab];exact zf ω) hi hy (j _ _ b) ⟨_,rfl,(c.trans j).then o,ai,by rw[AM e,Am];rfl⟩
 ·rintro σ ys a ⟨v,rfl,c,b,rfl⟩
  rw[Az (by rw[Ab,Ab];omega)] at b;exact k a c b
def G4{ns:List (Int×Int)}{a there:Ξ}:((a.map fun p=>decide (kn ns p∈there)).all id)=c9 ns a there:=by unfold c9;rw[List.all_map];rfl
def Nk{f z:Addr}{fd G:FuncData}(F:Fun K "_law_is_map" "_law_is_map" tX f fd)(B:Bt mg)(Fi:Fun K "_law_image" "_law_image" pw z G)(bi:Binds K G ["piece","names"] [])(mi:mg "_law_image"=some (.ref z)):FnOk P w K mg base aw 2 f fd ["known","there","names"] (G3 K):=by
 have Gi:FnOk P w K mg base aw 1 z G ["piece","names"] GU:=Nb Fi B;refine F.ok Nj (fun vs H Q E h=>?_) (fun cdv A outer s H vs Q E hr h=>?_)
 ·obtain⟨KN,TH,m,ks,ts,ns,c,pss,there,rfl,_⟩:=h;rfl
 ·obtain⟨KN,TH,m,ks,ts,ns,c,pss,there,rfl,hk,M,y,hz,v,hT,fW,hm,hd,k⟩:=h
  have hu:=dr hr;have N:=hr.units;refine⟨_,za (zN (zo (FB N) (zh rj rfl B.sorted gD (ac (zj (x8 rfl) rfl B.list eY (ac (pv 2) al)) al))
    (zw ["known","there","names"] ["piece"] [none] (zA (pv 0)) (fun d C s₀ H₀ ex=>zk (i:=0) (bR ["piece"]) rfl (Or.inl rfl)) (fun d C s₀ H₀ ex=>gh (zo c_ (zh zi rfl B.len zM (ac (pv 0) al)) ze (aq _)))
     (fun d C s₀ H₀ ex=>zI eR (pv 0) ze (fun _ _=>rfl)) (hfr:=bN δ) (te:=t2 K) (tc:=kq K)) (aq _)) (zd (zr dc)) zv)
   (zd (zr (zh (jX rfl) rfl B.all j' (ac
    (zw ["known","there","names"] ["piece","names","there"] [none,some 2,some 1] (zA (pv 0)) (fun d C s₀ H₀ ex=>zk (i:=0) (bR ["piece","names","there"]) rfl (Or.inl rfl)) (fun d C s₀ H₀ ex=>zH)
     (fun d C s₀ H₀ ex=>hG (r:=gi false K) (ya (in1_units N)) (zq Gi hr rfl mi Fi.kp bi .nil am (ac (pv 0) (ac (pv 1) al))) (pv 2) (by with_unfolding_all rfl)) (hfr:=bO (zb tX) δ)) al)))),?_⟩
  have hlk:ns.length=(dots c).length:=by rw[<-hd,Ab]
  have c5:=l5 c;refine⟨_,rfl,m,_,rfl,hm,fun L U=>?_⟩;have s1:=Same.new (o:=.lst (((ns.map fun p=>(p.1,V.int p.2)).map fun p=>((Sum.inl p.1:Key),p.2)).map fun kv=>kV kv.1)) U;have ev:(((ns.map fun p=>(p.1,V.int p.2)).map fun p=>((Sum.inl p.1:Key),p.2)).map fun kv=>kV kv.1)=(dots c).map V.int:=by rw[<-hd,At,At,At];rfl
  refine⟨L,dots c,rfl,SqL.of (by rw[ai,ev]),ω,fun D ms hp hs W=>?_⟩;have j:=s1.trans (Same.new (o:=.lst (ms.map V.int)) W);obtain rfl:ms=dots c:=by
   refine List.Perm.eq_of_pairwise (le:=fun a b:Int=>a<=b) (fun a b _ _=>Int.le_antisymm) hs ?_ hp;rw[y];exact G1 pss
  refine⟨_,rfl,KN,rfl,⟨_,j.seq hk⟩,fun D2 X=>zy (CG (j.seq hk) (j.tps M) ω X fun H3 I Y=>G2 (SqL.of (I _ _ ai)) (SqL.of Y) ⟨_,rfl,?_⟩)⟩;have e:=j.trans I;refine aH ⟨_,rfl,KN,rfl,⟨_,e.seq hk⟩,fun D4 Z=>zy (CI (g:=fun p=>decide (kn ns p∈there)) (e.seq hk) (e.tps M) ω (fun t p T Q' hp ht l q=>?_) Z fun T l v=>⟨D4,_,rfl,SqL.of v,?_⟩)⟩
  ·have O:=e.trans l
   refine⟨_,rfl,_,rfl,m,t,ns,p,rfl,O _ _ hm,ht,by have:=v p hp;omega,fun x hx=>by rw[hd,y];exact gS (y▸hp) hx,fun u H6 J p7 eZ=>?_⟩;have S:=O.trans J;refine⟨_,rfl,u,TH,_,ts,there,rfl,rfl,eZ,S.seq hT,S.tps fW,?_⟩;rw[if_neg ξ];exact q H6 J
  ·rw[G4]
   exact k T (e.trans l)
structure WM(K:Ae)(H:Hp)(l o m:Addr)(as bs:List Addr)(pss af:Ξ)(ns:List (Int×Int)):Prop where
 hl:SqL K H l (as.map V.ref)
 ha:Tps H as pss
 hw:b0 pss
 ho:SqL K H o (bs.map V.ref)
 hb:Tps H bs af
 hv:b0 af
 hm:H m=some (zV ns)
 hd:ns.map (·.1)=dots (canon pss)
def WM.same{H H':Hp}{l o m:Addr}{as bs:List Addr}{pss af:Ξ}{ns:List (Int×Int)}(h:WM K H l o m as bs pss af ns)(s:Same H H'):WM K H' l o m as bs pss af ns:=⟨s.seq h.hl,s.tps h.ha,h.hw,s.seq h.ho,s.tps h.hb,h.hv,s _ _ h.hm,h.hd⟩
def dS{pss:Ξ}(hw:bI pss=true):∀o∈canon pss,o.length<=5/\o≠[]:=fun o a=>by
 obtain⟨_,b,_,_⟩:=iO hw;obtain⟨q,hq,hx⟩:=List.mem_flatMap.mp (sr.mp a);obtain⟨c,d,_,hp⟩:=lu.mp (LU (b q hq) hx);exact⟨d,c⟩
def G5(K:Ae):Sp:=fun vs H Q _=>∃l o m as bs pss af ns,vs=[.ref l,.ref o,.ref m]/\WM K H l o m as bs pss af ns/\∀H',Same H H'->Q (.bl (c9 ns (canon pss) (canon af))) H'
abbrev CJ:List Str:=["web","other","names","here","there"]
def CK:zn CJ ["web","other","names"] (zb tW):=⟨rfl,rfl,rfl,δ,rfl,δ,δ⟩
def Nl{f fp I:Addr}{fd J L:FuncData}(F:Fun K "is_map" "is_map" tW f fd)(B:Bt mg)(Fp:Fun K "pieces" "pieces" o8 fp J)(X:Binds K J ["web"] [])(Y:mg "pieces"=some (.ref fp))(Gp:FnOk P w K mg base aw 8 fp J ["web"] (sN K))(Fi:Fun K "image_of" "image_of" tS I L)(bi:Binds K L ["names","piece"] [])(mi:mg "image_of"=some (.ref I))(Gi:FnOk P w K mg base aw 2 I L ["names","piece"] GS):FnOk P w K mg base aw 9 f fd ["web","other","names"] (G5 K):=by
 refine F.ok CK (fun vs H Q E h=>?_) (fun cdv A outer s H vs Q E hr h=>?_)
 ·obtain⟨l,o,m,as,bs,pss,af,ns,rfl,_⟩:=h;rfl
 ·obtain⟨l,o,m,as,bs,pss,af,ns,rfl,c,k⟩:=h
  have hu:=dr hr;have S:=hr.units;have jo:Room 2 _:=hr.mono ξ;refine⟨_,za (zp (i:=3) CK.nd rfl (Or.inl rfl) (zq Gp hr rfl Y Fp.kp X .nil am (ac (pv 0) al)))
   (za (zp (i:=4) CK.nd rfl (Or.inr rfl) (zq Gp hr rfl Y Fp.kp X .nil am (ac (pv 1) al)))
   (za (zN (zo (FB S) (zh (MX rfl) rfl B.sorted gD (ac (pv 2) al))
    (zw CJ ["piece"] [none] (zA (pv 3)) (fun e C s₀ H₀ ex=>zk (i:=0) (bR ["piece"]) rfl (Or.inl rfl)) (fun e C s₀ H₀ ex=>gh (zo c_ (zh zi rfl B.len zM (ac (pv 0) al)) ze (aq _)))
     (fun e C s₀ H₀ ex=>zI eR (pv 0) ze (fun _ _=>rfl)) (hfr:=bN δ) (te:=t2 K) (tc:=kq K)) (aq _)) (zd (zr dc)) zv)
   (zd (zr (zh (jX rfl) rfl B.all j' (ac
    (zw CJ ["piece","names","there"] [none,some 2,some 4] (zA (pv 3)) (fun e C s₀ H₀ ex=>zk (i:=0) (bR ["piece","names","there"]) rfl (Or.inl rfl)) (fun e C s₀ H₀ ex=>zH)
     (fun e C s₀ H₀ ex=>hG (r:=gi false K) (ya (in1_units S)) (zq Gi jo rfl mi Fi.kp bi .nil am (ac (pv 1) (ac (pv 0) al))) (pv 2) (by with_unfolding_all rfl)) (hfr:=bO (zb tW) δ)) al)))))),?_⟩
  refine⟨_,rfl,l,as,pss,rfl,c.hl,c.ha,c.hw,fun KN H1 ks M rB ue nL=>?_⟩;have y:=c.same M;refine⟨_,rfl,o,bs,af,rfl,y.ho,y.hb,y.hv,fun TH H2 ts j i9 dE iw=>?_⟩;have T:=y.same j;have z:=j _ _ ue;have U:=j.tps nL;have hz:=c.hw.2;have c5:=l5 (canon pss);have hlk:ns.length=(dots (canon pss)).length:=by rw[<-c.hd,Ab]
  refine⟨_,rfl,m,_,rfl,T.hm,by rw[Ab];omega,fun D ms hp hs hD=>?_⟩;have G:=Same.new (o:=.lst (ms.map V.int)) hD;obtain rfl:ms=dots (canon pss):=by
   refine List.Perm.eq_of_pairwise (le:=fun a b:Int=>a<=b) (fun a b _ _=>Int.le_antisymm) hs (G1 pss) (hp.trans ?_);rw[At,<-c.hd];exact List.Perm.refl _
  refine⟨_,rfl,KN,rfl,⟨_,SqL.of (G _ _ z)⟩,fun D2 aE=>zy (CG (SqL.of (G _ _ z)) (G.tps U) ω aE fun H4 N h4=>G2 (SqL.of (N _ _ ai)) (SqL.of h4) ⟨_,rfl,?_⟩)⟩;have d:=G.trans N;have uF:=T.same d;refine aH ⟨_,rfl,KN,rfl,⟨_,SqL.of (d _ _ z)⟩,fun D4 a7=>zy (CI (g:=fun p=>decide (kn ns p∈canon af)) (SqL.of (d _ _ z)) (d.tps U) ω (fun t p Z Q' hp ht v q=>?_) a7 fun Z v h5=>⟨D4,_,rfl,SqL.of h5,?_⟩)⟩
  ·refine⟨_,rfl,_,rfl,m,t,ns,p,rfl,v _ _ uF.hm,ht,by have:=(dS c.hw.1 p hp).1;omega,fun x hx=>by rw[c.hd];exact gS hp hx,fun u H6 O p7 eZ=>?_⟩
   have W:=(d.trans v).trans O;refine⟨_,rfl,u,TH,_,ts,canon af,rfl,rfl,eZ,SqL.of (W _ _ dE),W.tps iw,?_⟩;rw[if_neg ξ];exact q H6 O
  ·rw[G4]
   exact k Z (((M.trans j).trans d).trans v)
def No:zn ["web","other","names"] ["web","other","names"] (zb CF):=⟨rfl,rfl,rfl,δ,rfl,δ,δ⟩
end
end K56
end
section
namespace DEq
open PySem
section
variable{prog:Program}{w:World}{K:Type}[DecidableEq K]{knd:HeapKind prog w K}{A:Around}{E:Ω}{s:Shared}
def Np{id:String}{a b:Addr}{xs ys:List (K×Addr×Value)}{Q:Bool->Shared->Prop}(hu:knd.room A)(W:(a==A0)=false)(hb:(b==A0)=false)(hx:s.heap.DictOfH knd a xs)(hy:s.heap.DictOfH knd b ys)(X:xs.length=ys.length)(Y:∀(i:Nat) k p v,xs[i]?=some (k,p,v)->∃(j:Nat)(q:Addr)(n:Int)(t t':Tok),v=.int n t/\ys[j]?=some (k,q,.int n t'))(h:Q true s):wpAny (model prog w) A (Builtin.Dict.samePairs id a b) Q E s:=by
 obtain⟨oa,c,pa,g,qc,l,G,L,qG⟩:=hx;obtain⟨ob,M,pb,u,N,z,C,O,H⟩:=hy;have I:=size_of_entries (knd:=knd) G;have T:=size_of_entries (knd:=knd) C;unfold Builtin.Dict.samePairs Builtin.Dict.showsAll;rw[if_neg (by rw[W];exact Aq),if_neg (by rw[hb];exact Aq)];refine Aa (Ac (Aa (Ac ?_)));refine Aa (AD g l ?_);dsimp only;refine Aa (AD u z ?_);rw[if_neg (by rw[I,T,X];simp)];refine Aa (wpAny_dictEpoch g l ?_);refine Aa ?_;rw[Std.Legacy.Range.forIn_eq_forIn_range'];simp only[Std.Legacy.Range.size,Nat.sub_zero,Nat.add_sub_cancel,Nat.div_one];refine wpAny_forIn_list _ (fun rest r s'=>s'=s/\r.1=none/\∃i,rest=List.range' i (c.size-i)/\i<=c.size) _ ?_ ?_ _ _ ⟨rfl,rfl,0,by simp,AK _⟩
 ·rintro x rest r s' ⟨rfl,d,i,hr,hi⟩
  have f:i<c.size:=by
   rcases Nat.lt_or_ge i c.size with h|h
   ·exact h
   ·rw[Nat.sub_eq_zero_of_le h] at hr;simp at hr
  obtain⟨rfl,P⟩:x=i/\rest=List.range' (i+1) (c.size-(i+1)):=by
   have e:c.size-i=(c.size-(i+1))+1:=ω
   rw[e,List.range'_succ] at hr;injection hr with h1 h2
   exact⟨h1,h2⟩
  obtain⟨⟨k,p,v⟩,hkv⟩:∃y,xs[x]?=some y:=⟨xs[x]'(by rw[<-I];exact f),Af _⟩;obtain⟨S,q,n,t,t',rfl,D⟩:=Y x k p v hkv;have hex:c[x]?=some ⟨knd.hash k,.ref p,.int n t⟩:=by rw[entry_at G x,hkv];rfl
  have F:knd.is s'.heap k p:=L _ (Ap hkv);refine Aa (AD g l ?_);rw[hex];dsimp only;refine Aa (AA (Aa (wpAny_dictFind_heap hu F u z C O H (fun o=>absurd D (o S _)) fun j Z J=>?_)));obtain rfl:=idxH_unique H J D;dsimp only;refine Aa (AD u z ?_);have U:M[j]?=some ⟨knd.hash k,.ref q,.int n t'⟩:=by rw[entry_at C j,D];rfl
  rw[U];dsimp only;refine AA (wpAny_eqBool_int ?_);rw[if_neg (by simp)];refine Aa (wpAny_dictEpoch g l ?_);rw[if_neg (by simp)];exact Ac ⟨rfl,rfl,x+1,P,f⟩
 ·rintro⟨r1,r2⟩ s' ⟨rfl,d,_⟩
  simp only at d;subst d;exact Ac h
def Nq{id:String}{a b:Addr}{xs ys:List (K×Addr×Value)}{Q:Bool->Shared->Prop}(p:(a==A0)=false)(hb:(b==A0)=false)(hx:s.heap.DictOfH knd a xs)(hy:s.heap.DictOfH knd b ys)(q:xs.length≠ys.length)(h:Q false s):wpAny (model prog w) A (Builtin.Dict.samePairs id a b) Q E s:=by
 obtain⟨r,u,v,c,x,d,e,y,z⟩:=hx;obtain⟨ob,C,D,f,g,i,j,F,G⟩:=hy;have l:=size_of_entries (knd:=knd) e;have o:=size_of_entries (knd:=knd) j;unfold Builtin.Dict.samePairs Builtin.Dict.showsAll;rw[if_neg (by rw[p];exact Aq),if_neg (by rw[hb];exact Aq)];refine Aa (Ac (Aa (Ac ?_)));refine Aa (AD c d ?_);dsimp only;refine Aa (AD f i ?_);rw[if_pos (by rw[l,o];simpa using q)];exact Aa (wpAny_rule (Ac h))
def Nr{a b:Addr}{r:Bool}{Q:Ω}(c:A.units<cLine)(hx:s.TypeIs (.ref a) "dict")(hy:s.TypeIs (.ref b) "dict")(hs:∀(id:String)(R:Bool->Shared->Prop)(d:Ω)(A':Around),A'.units<=A.units+8->R r s->wpAny (model prog w) A' (Builtin.Dict.samePairs id a b) R d s)(h:Q (.bool r) s):wpAny (model prog w) A (compareOp .Eq (.ref a) (.ref b)) Q E s:=by
 show wpAny _ _ (richCompare .Eq (.ref a) (.ref b)) _ _ _;refine wpAny_richCompare_same_room (op:=.Eq) hx hy F.slot_dict_eq (AC F.slot_dict_eq hx F.entry_dict_eq ?_ (F.args_dict_eq_2 _ _)) c;unfold Builtin.«dict.__eq__»
 wp_delta
 refine Aa ?_;unfold Builtin.Dict.dictSlotArgs;refine Aa (wpAny_notOrdered_dict hx ?_);refine Aa (show wpAny _ _ (pure (Value.ref a,[Value.ref b])) _ _ _ from Ac ?_);refine Ac ?_;dsimp only;refine Aa (A8 hy DCp.oz ?_);simp only[A3,Ah,if_false];refine Aa (show wpAny _ _ (pure a) _ _ _ from Ac ?_);refine Aa (show wpAny _ _ (pure b) _ _ _ from Ac ?_);refine Aa (hs _ _ _ _ (by show A.units+1<=_;omega) ?_);refine Ac ⟨_,rfl,(fun e=>nomatch e),?_⟩;cases r<;>exact h
def Nt{a b:Addr}{r:Bool}{Q:Ω}(c:A.units<cLine)(hx:s.TypeIs (.ref a) "dict")(hy:s.TypeIs (.ref b) "dict")(hs:∀(id:String)(R:Bool->Shared->Prop)(d:Ω)(A':Around),A'.units<=A.units+8->R r s->wpAny (model prog w) A' (Builtin.Dict.samePairs id a b) R d s)(h:Q (.bool (!r)) s):wpAny (model prog w) A (compareOp .NotEq (.ref a) (.ref b)) Q E s:=by
 show wpAny _ _ (richCompare .NotEq (.ref a) (.ref b)) _ _ _;refine wpAny_richCompare_same_room (op:=.NotEq) hx hy F.slot_dict_ne (AC F.slot_dict_ne hx F.entry_dict_ne ?_ (F.args_dict_ne_2 _ _)) c;unfold Builtin.«dict.__ne__»
 wp_delta
 refine Aa ?_;unfold Builtin.Dict.dictSlotArgs;refine Aa (wpAny_notOrdered_dict hx ?_);refine Aa (show wpAny _ _ (pure (Value.ref a,[Value.ref b])) _ _ _ from Ac ?_);refine Ac ?_;dsimp only;refine Aa (A8 hy DCp.oz ?_);simp only[A3,Ah,if_false];refine Aa (show wpAny _ _ (pure a) _ _ _ from Ac ?_);refine Aa (show wpAny _ _ (pure b) _ _ _ from Ac ?_);refine Aa (hs _ _ _ _ (by show A.units+1<=_;omega) ?_);refine Ac ⟨_,rfl,(fun e=>nomatch e),?_⟩;cases r<;>exact h
end
end DEq
namespace L2
open PySem PySem.Spec PyProof.Rows
def eU(H:Hp)(a b:Addr)(r:Bool):Prop:=∃(kvs c:List (List Key×V))(pss d:Ξ)(ns:List Int),Rd H a (.dT kvs)/\Rd H b (.dT c)/\kvs.map (·.1)=pss.map (·.map Sum.inl)/\c.map (·.1)=d.map (·.map Sum.inl)/\kvs.map (·.2)=ns.map V.int/\
 ((r=true/\kvs.length=c.length/\∀kv∈kvs,kv∈c)\/(r=false/\kvs.length≠c.length))
section
variable{X:Cx}
def G6{aa:Ψ}{s:Shared}{σ:St}{H:Hp}{a b:Addr}{r:Bool}(I:Inv X aa σ H s)(hu:X.A.units+64<cLine)(h:eU H a b r):s.TypeIs (.ref a) "dict"/\s.TypeIs (.ref b) "dict"/\
  ∀(id:String)(R:Bool->Shared->Prop)(x:Ω)(A':Around),A'.units<=X.A.units+8->R r s->wpAny (model X.prog X.w) A' (Builtin.Dict.samePairs id a b) R x s:=by
 obtain⟨kvs,O,pss,P,ns,y,hb,hp,l,z,hc⟩:=h;obtain⟨o,xs,d,Q,C⟩:=sf I.hok y hp;obtain⟨q,ys,f,bl,D⟩:=sf I.hok hb l;refine⟨(d X.prog X.w).typeIs,(f X.prog X.w).typeIs,fun id R x A' N hR=>?_⟩;rcases hc with ⟨rfl,E,hm⟩|⟨rfl,E⟩
 ·refine DEq.Np (knd:=tupleKind (intKind X.prog X.w)) (show A'.units<cLine from ω) o q (d _ _) (f _ _) ω (fun i k p v e=>?_) hR
  obtain⟨g1,kv,g2,g3⟩:=C i _ e;obtain⟨j,g⟩:=List.getElem?_of_mem (hm kv (Ap g2));have J:j<ys.length:=by have:=(List.getElem?_eq_some_iff.mp g).1;omega
  have u:ys[j]?=some ys[j]:=Af J;obtain⟨f1,S,f2,f3⟩:=D j ys[j] u;rw[g] at f2;obtain rfl:=An f2;have k1:kv.1=k.map Sum.inl:=by
   have:=congrArg (·[i]?) hp;simp only[Ai,g2,g1,A6,Bd] at this;exact this
  have k2:kv.1=ys[j].1.map Sum.inl:=by
   have:=congrArg (·[j]?) l;simp only[Ai,g,f1,A6,Bd] at this;exact this
  have L:ys[j].1=k:=hX.mp (k2.symm.trans k1);have c:=congrArg (·[i]?) z;simp only[Ai,g2,A6] at c;cases en:ns[i]? with
  |none=>rw[en] at c;simp at c
  |some n=>
   rw[en] at c;have M:kv.2=V.int n:=by simpa using c
   rw[M] at g3 f3;obtain⟨t,F⟩:=(show ∃t,v=Value.int n t from g3);obtain⟨t',G⟩:=(show ∃t,ys[j].2.2=Value.int n t from f3);refine⟨j,ys[j].2.1,n,t,t',F,?_⟩;rw[u,<-L,<-G]
 ·exact DEq.Nq (knd:=tupleKind (intKind X.prog X.w)) o q (d _ _) (f _ _) ω hR
def Nu(hu:X.A.units+64<cLine):bU X (compareOp .Eq) (fun x y H Q=>∃a b r,x=.ref a/\y=.ref b/\eU H a b r/\Q (.bl r) H):=by
 intro aa s σ H x y v u Q I c d h;obtain⟨a,b,r,rfl,rfl,hc,q⟩:=h;cases c;cases d;obtain⟨e,f,hs⟩:=G6 I hu hc;exact DEq.Nr ω e f hs ⟨.bl r,H,I,rfl,q⟩
def Nv(hu:X.A.units+64<cLine):bU X (compareOp .NotEq) (fun x y H Q=>∃a b r,x=.ref a/\y=.ref b/\eU H a b r/\Q (.bl (!r)) H):=by
 intro aa s σ H x y v u Q I c d h;obtain⟨a,b,r,rfl,rfl,hc,q⟩:=h;cases c;cases d;obtain⟨e,f,hs⟩:=G6 I hu hc;exact DEq.Nt ω e f hs ⟨.bl (!r),H,I,rfl,q⟩
def Nw:zU X (.builtin "isinstance") (fun xs H Q=>∃a kvs,xs=[.ref a,.ty "dict"]/\H a=some (.dT kvs)/\Q (.bl true) H):=by
 intro aa s σ H xs us Q I r h;obtain⟨a,ys,rfl,b,q⟩:=h;obtain⟨u,e,rfl,c,d⟩:=vals2 r;cases d;exact qH I c (.dT b) (by first|rfl|kernel_rfl|decide +kernel) fun tk=>⟨.bl true,H,I.tok _,rfl,q⟩
end
end L2
end
section
namespace K56
open K1
open PySem L2 STb
abbrev t4:Stmt:=top 55
abbrev t6:Stmt:=top 56
abbrev t_:Stmt:=top 60
def Nx(ts:Ch):(ksC ts).Nodup->lN ts=ts:=pj (P:=fun ts=>(ksC ts).Nodup->lN ts=ts) (fun _=>rfl) (fun l t a h=>by
 have h':(ksC l++[t.1]).Nodup:=by
  have:ksC (l++[t])=ksC l++[t.1]:=by unfold ksC;rw[Am];rfl
  rw[<-this];exact h
 rw[List.nodup_append] at h';have e1:lN (l++[t])=bS (lN l) t.1 t.2:=by unfold lN;rw[List.foldl_append];rfl
 rw[e1,a h'.1,Gq _ (fun z=>h'.2.2 t.1 z t.1 (by simp) rfl)]) ts
def Ny(k:Nat)(n:Int):n*(1-(k:Int)%2*2)=sg k n:=by
 unfold sg
 by_cases h:(k:Int)%2=0
 ·rw[if_pos h,h];simp
 ·have:(k:Int)%2=1:=ω
  rw[if_neg h,this];simp
abbrev G7:TT:=hU (cb qC (nF (ax 1) (ax 0)) (tC (.int 0)))
abbrev G8:TE:=dq (zJ (ax 0) (zJ (nF (ax 1) (ax 0)) a8))
def G9(x:Int):∀l:List Int,falls (l++[x])=falls l+(l.filter fun y=>decide (x<y)).length
 |[]=>by simp[falls,lX]
 |y::r=>by
  rw[List.cons_append];unfold falls;rw[G9 x r];unfold lX;rw[AV,As]
  by_cases h:x<y
  ·simp[h];omega
  ·simp[h];omega
def Nz(a b:Nat)(n:Int):sg a n*(1-(b:Int)%2*2)=sg (a+b) n:=by
 unfold sg
 by_cases c:(a:Int)%2=0
 ·by_cases hb:(b:Int)%2=0
  ·rw[if_pos c,if_pos ω,hb];simp
  ·rw[if_pos c,if_neg ω,show(b:Int)%2=1 from ω];simp
 ·by_cases hb:(b:Int)%2=0
  ·rw[if_neg c,if_neg ω,hb];simp
  ·rw[if_neg c,if_pos ω,show(b:Int)%2=1 from ω];simp
def NA(a b:Ch):aZ (a++b)=b.foldl gR (aZ a):=by unfold aZ;rw[List.foldl_append]
abbrev pD(K:Ae):TT:=hU (cb (fL fun i j=>.bl (decide (j<i))) (cb (jU K) (ax 1) (ax 0)) (cb (jU K) (ax 1) (ax 2)))
section
variable{P:Program}{w:World}{K:Ae}{mg:Str->Option Value}{base:Heap}
def NB{H2:Hp}{l D:Addr}{ns:List Int}{i:Nat}{x:Int}{Q:VK}(p:H2 l=some (.lst (ns.map V.int)))(hz:ns.length<=10)(ex:ns[i]?=some x)(o:H2 D=none)(k:∀b ys,Same H2 b->b D=some (.lst ys)->ys.length=((ns.take i).filter fun y=>decide (x<y)).length->Q (.ref D) b):cG (jg 0 i) (cA 0) (pD K) (ax 0) [none,some (.ref l),some (.int i)] H2 D Q:=by
 have hi:i<ns.length:=(List.getElem?_eq_some_iff.mp ex).1;refine JS (fun j σ ys b=>∃(v:Option V),σ=[v,some (.ref l),some (.int i)]/\Same H2 b/\b D=some (.lst ys)/\ys.length=((ns.take j).filter fun y=>decide (x<y)).length) ?_ ?_ ?_
 ·exact⟨none,rfl,Same.new o,ai,rfl⟩
 ·rintro j σ ys b f hy ⟨v,rfl,c,a,d⟩
  obtain⟨y,e⟩:∃y,ns[j]?=some y:=⟨ns[j]'ω,Af _⟩;have g:=c _ _ p;refine⟨_,rfl,_,rfl,l,_,_,.int y,rfl,rfl,SqL.of g,by rw[show(0:Int)+(j:Int)=(j:Int) from ω];exact zu (by rw[Ai,e];rfl),_,rfl,_,rfl,l,_,_,.int x,rfl,rfl,SqL.of g,zu (by rw[Ai,ex];rfl),_,_,rfl,rfl,_,rfl,?_⟩
  by_cases h:x<y
  ·rw[decide_eq_true h]
   refine aX ⟨_,rfl,a9 (zf ω) f hy a ⟨_,rfl,c.then o,ai,?_⟩⟩;rw[As,d,AM e,AV,As];simp[h]
  ·rw[decide_eq_false h]
   refine aH (cS f hy ⟨_,rfl,c,a,?_⟩);rw[d,AM e,AV,As];simp[h]
 ·rintro σ ys b ⟨v,rfl,c,a,d⟩
  exact k b ys c a d
def G_:Sp:=fun vs H Q _=>∃l f ns n acc,vs=[.ref l,.int n,.ref f]/\H l=some (.lst (ns.map V.int))/\ns.length<=10/\H f=some (.dT (aK acc))/\acc.length<=1000/\∀H',zx f H H'->H' f=some (.dT (aK ((im ns n).foldl gR acc)))->Q .non H'
abbrev G':List Str:=["row","weight","found","k","piece"]
def uf:zn G' ["row","weight","found"] (zb t_):=⟨rfl,rfl,rfl,δ,rfl,δ,δ⟩
def NC{f:Addr}{fd:FuncData}(F:Fun K "_law_rising" "_law_rising" t_ f fd)(B:Bt mg):FnOk P w K mg base aw 1 f fd ["row","weight","found"] G_:=by
 refine F.ok uf (fun vs H Q E h=>?_) (fun cdv A outer s H vs Q E hr h=>?_)
 ·obtain⟨l,g,ns,n,acc,rfl,_⟩:=h;rfl
 ·obtain⟨l,g,ns,n,acc,rfl,a,hz,hf,U,k⟩:=h
  have hu:=dr hr;refine⟨_,zd (zN (zo c_ (zh GA rfl B.len zM (ac (zj (zO rfl) rfl B.set ia (ac (pv 0) al)) al)) (zh zi rfl B.len zM (ac (pv 0) al)) (aq _))
   (za (zZ AU rfl (kL rfl B.range (ac (zh zi rfl B.len zM (ac (pv 0) al)) al)) (zk (i:=3) uf.nd rfl (Or.inr rfl))
    (zd (zp (i:=1) uf.nd rfl (Or.inl rfl) (zD f_ (pv 1) (zD kN ze (zD f_ (zD gb (zh zi rfl B.len zM (ac
     (zw G' ["j","row","k"] [none,some 0,some 3] (kL rfl B.range (ac (pv 3) al)) (fun G C s₀ H₀ ex=>zk (i:=0) (bR ["j","row","k"]) rfl (Or.inl rfl))
      (fun G C s₀ H₀ ex=>gh (zo ix (zI zC (pv 1) (pv 0) (fun _ _=>rfl)) (zI zC (pv 1) (pv 2) (fun _ _=>rfl)) (aq _))) (fun G C s₀ H₀ ex=>pv 0) (hfr:=bO (zb t_) δ) (tc:=pD K)) al)) ze) ze))))))
   (za (zp (i:=4) uf.nd rfl (Or.inl rfl) (zj zE rfl B.tuple gG (ac (zh rj rfl B.sorted gD (ac (pv 0) al)) al)))
   (zd (hV hu (pv 2) (pv 4) (zD dY (DS hu (pv 2) (pv 4) ze ⟨rfl,rfl,rfl,rfl⟩) (pv 1)) rfl)))) zv),?_⟩
  refine⟨_,rfl,l,ns,rfl,SqL.of a,ω,fun S J=>⟨S,_,rfl,ai,?_⟩⟩;have d:=Same.new (o:=cQ P w S (dd ns)) J;refine⟨_,rfl,l,_,rfl,.inl (SqL.of (d _ _ a)),rfl,_,rfl,?_⟩;rw[Ab]
  by_cases p:ns.Nodup
  ·rw[decide_eq_true (congrArg (fun l:List Int=>V.int (l.length:Int)) ((GX ns).2 p))]
   refine aX ⟨_,rfl,l,_,rfl,.inl (SqL.of (d _ _ a)),_,rfl,by rw[Ab];omega,by rw[Ab];omega,?_⟩;rw[Ab];refine mW (lo:=0) (n:=((ns.length:Int)).toNat) (fun j σ q=>∃(v:Option V),σ=[some (.ref l),some (.int (sg (falls (ns.take j)) n)),some (.ref g),v,none]/\Same H q)
    ⟨none,by rw[List.take_zero];rfl,d⟩ ?_ ?_
   ·rintro j σ q W ⟨v,rfl,c⟩
    obtain⟨x,ex⟩:∃x,ns[j]?=some x:=⟨ns[j]'ω,Af _⟩;rw[show(0:Int)+(j:Int)=(j:Int) from ω];refine⟨_,rfl,_,rfl,j,rfl,ω,ω,fun D r=>zy (NB (i:=j) (c _ _ a) hz ex r fun X ys L M hy=>?_)⟩;refine⟨D,ys,rfl,.inl (SqL.of M),_,_,rfl,rfl,(by show(0:Int)<2;decide),_,_,rfl,rfl,.inr ⟨ξ,ξ⟩,_,_,rfl,rfl,_,_,rfl,rfl,.inr ⟨?_,?_⟩,?_⟩
    ·show -(18446744073709551616:Int)<1-(ys.length:Int)%2*2
     omega
    ·show 1-(ys.length:Int)%2*2<(18446744073709551616:Int)
     omega
    ·refine⟨some (.int j),?_,c.trans L⟩
     have e:sg (falls (ns.take j)) n*(1-(ys.length:Int)%2*2)=sg (falls (ns.take (j+1))) n:=by rw[Nz,hy,AM ex,G9]
     rw[<-e]
     rfl
   ·rintro σ q ⟨v,rfl,c⟩
    rw[show((ns.length:Int)).toNat=ns.length from ω,take_all];refine⟨_,rfl,l,ns,rfl,SqL.of (c _ _ a),ω,fun D ms hp hs r=>?_⟩;have O:=c.trans (Same.new (o:=.lst (ms.map V.int)) r);refine⟨D,_,rfl,.inl ⟨SqL.of ai,fun t N=>?_⟩⟩;have I:=O.trans (Same.new (o:=.tup (ms.map V.int)) N);obtain rfl:=GY hp hs;have y:=I _ _ hf;have e2:upd (upd q D (.lst ((jF ns).map V.int))) t (.tup ((jF ns).map V.int)) t=some (.tup (((jF ns).map Sum.inl:List Key).map kV)):=by rw[ai,At];rfl
    refine⟨_,rfl,g,rfl,.inr ⟨_,.inl y⟩,_,rfl,_,DGet.t (k:=(jF ns).map Sum.inl) y e2,?_⟩;rw[Gj];refine⟨_,rfl,_,_,rfl,rfl,_,rfl,_,rfl,g,_,rfl,DPut.t (k:=(jF ns).map Sum.inl) y e2 (by rw[iT];exact e_ ω),?_⟩;refine k _ ((zx.of I).trans fun b u hb e=>by rw[zl hb];exact e) ?_;rw[ai,cw];unfold im;rw[if_pos p]
    rfl
  ·have T:=(CD ns).mpr p
   rw[decide_eq_false (fun z=>by injection z with z;omega)];refine aH (k _ (zx.of d) ?_);unfold im;rw[if_neg p];exact d _ _ hf
def ND{H2:Hp}{L D d:Addr}{as:List Addr}{i:Ch}{Q:VK}(G:H2 L=some (.lst (as.map V.ref)))(A:Tps H2 as (ksC i))(hd:H2 d=some (.dT (aK i)))(H:(ksC i).Nodup)(hz:i.length<=1000)(C:H2 D=none)(k:∀(b:Hp)(ts:List Addr),Same H2 b->b D=some (.lst (ts.map V.ref))->Prs b ts (i.filter dw)->Q (.ref D) b):cG (dv K L) (cA 0) G7 G8 [none,some (.ref d)] H2 D Q:=by
 have y:=A.length;rw[kh] at y;refine zG (xs:=as.map V.ref) (fun j σ ys b=>∃(v:Option V)(ts:List Addr),σ=[v,some (.ref d)]/\Same H2 b/\b D=some (.lst ys)/\ys=ts.map V.ref/\Prs b ts ((i.take j).filter dw)) ?_ ?_ ?_ ?_
 ·exact⟨none,[],rfl,Same.new C,ai,rfl,.nil⟩
 ·rintro j σ ys b ⟨v,ts,rfl,f,e,rfl,hp⟩
  exact SqL.of (f _ _ G)
 ·rintro j σ ys b x hx u hy ⟨v,ts,rfl,f,e,rfl,hp⟩
  obtain⟨a,F,rfl⟩:=zR hx;obtain⟨ps,q,w⟩:=A.get F;unfold ksC at q;rw[Ai] at q;obtain⟨c,r,rfl⟩:∃c,i[j]?=some c/\c.1=ps:=by
   cases h:i[j]? with
   |none=>rw[h] at q;cases q
   |some c=>rw[h] at q;exact⟨c,rfl,An q⟩
  have hsz:(as.map V.ref).length<=sizeLine:=by rw[Ab];exact zf ω
  have g:∀s,Same b s->DGet s d (.ref a) (some (.int c.2)):=fun s l=>.inr ⟨aK i,c.1.map Sum.inl,a,.inl (l _ _ (f _ _ hd)),rfl,tz (l.tp (f.tp w)),(lG H c (Ap r)).symm⟩;refine⟨_,rfl,_,rfl,d,_,rfl,g b (Same.refl _),rfl,_,rfl,?_⟩;cases hz0:dw c with
  |true=>
   have p:(!decide (V.int c.2=V.int 0))=true:=hz0;rw[p];refine aX ⟨_,rfl,_,rfl,_,rfl,d,_,rfl,g b (Same.refl _),zf (by simp),fun t E=>?_⟩;have l:=Same.new (o:=.tup [.ref a,.int c.2]) E;refine a9 hsz u hy (l _ _ e) ⟨_,ts++[t],rfl,(f.trans l).then C,ai,by rw[Am];rfl,?_⟩;rw[AM r,AV,List.filter_cons_of_pos hz0];exact Prs.upd (Prs.snoc (hp.same l) ⟨a,ai,l.tp (f.tp w)⟩) (l _ _ e) (by intro xs z;cases z)
  |false=>
   have p:(!decide (V.int c.2=V.int 0))=false:=hz0;rw[p];refine aH (cS u hy ⟨_,ts,rfl,f,e,rfl,?_⟩);rw[AM r,AV,List.filter_cons_of_neg (by rw[hz0];decide),List.filter_nil,List.append_nil];exact hp
 ·rintro σ ys b ⟨v,ts,rfl,f,e,rfl,hp⟩
  rw[Ab,y,take_all] at hp;exact k b ts f e hp
def NE{H:Hp}{ts:List Addr}{cs:Ch}(h:Prs H ts cs):Paired (fun t(kv:List Key×V)=>∃b,H t=some (.tup [.ref b,kv.2])/\H b=some (.tup (kv.1.map kV))) ts (aK cs):=by
 unfold aK
 induction h with
 |nil=>exact .nil
 |cons r t ih=>
  obtain⟨b,e1,e2⟩:=r;exact .cons ⟨b,e1,tz e2⟩ ih
def Hc:Sp:=fun vs H Q _=>∃n,vs=[.int n]/\Q (.bl true) H
def NF:zn ["x"] ["x"] (zb t4):=⟨rfl,rfl,rfl,δ,rfl,δ,δ⟩
def NG{f:Addr}{fd:FuncData}(F:Fun K "_law_whole" "_law_whole" t4 f fd)(B:Bt mg):FnOk P w K mg base aw 1 f fd ["x"] Hc:=by
 refine F.ok NF (fun vs H Q E h=>?_) (fun cdv A outer s H vs Q E hr h=>?_)
 ·obtain⟨n,rfl,_⟩:=h;rfl
 ·obtain⟨n,rfl,k⟩:=h
  refine⟨_,zd (zr (Dg (zh Md rfl B.isinstance zT (ac (pv 0) (ac (kI (v:=.ty "int") rfl B.int E8 rfl) al))) (De (Ih (zh Me rfl B.isinstance zT (ac (pv 0) (ac (kI (v:=.ty "bool") rfl B.bool E9 rfl) al))))))),?_⟩;exact⟨_,rfl,n,rfl,_,rfl,aX ⟨_,rfl,n,rfl,_,rfl,k⟩⟩
def Hd{H:Hp}{a b:Addr}{cs:Ch}(c:Rd H a (.dT (aK cs)))(hb:Rd H b (.dT (aK cs))):eU H a b true:=⟨aK cs,aK cs,ksC cs,ksC cs,cs.map (·.2),c,hb,lF cs,lF cs,Cu cs,.inl ⟨rfl,rfl,fun kv h=>h⟩⟩
def CL:Sp:=fun vs H Q _=>∃a b cs,vs=[.ref a,.ref b]/\H a=some (.dT (aK cs))/\Rd H b (.dT (aK cs))/\(ksC cs).Nodup/\cs.length<=1000/\∀H',Same H H'->Q (.bl true) H'
def NH:zn ["found","due"] ["found","due"] (zb t6):=⟨rfl,rfl,rfl,δ,rfl,δ,δ⟩
def NI{f fw:Addr}{fd cp:FuncData}(F:Fun K "_law_chain_like" "_law_chain_like" t6 f fd)(B:Bt mg)(Fw:Fun K "_law_whole" "_law_whole" t4 fw cp)(S:Binds K cp ["x"] [])(T:mg "_law_whole"=some (.ref fw)):FnOk P w K mg base aw 2 f fd ["found","due"] CL:=by
 have U:FnOk P w K mg base aw 1 fw cp ["x"] Hc:=NG Fw B;refine F.ok NH (fun vs H Q E h=>?_) (fun cdv A outer s H vs Q E hr h=>?_)
 ·obtain⟨a,b,cs,rfl,_⟩:=h;rfl
 ·obtain⟨a,b,cs,rfl,p,hb,J,hz,k⟩:=h
  have hu:=dr hr;have N:=hr.units;refine⟨_,za (zN (PW.pt (kK (eL (fg (zh Nw rfl B.isinstance zT (ac (pv 0) (ac (kI (v:=.ty "dict") rfl B.dict ig rfl) al))))) (my (zo (Nv N) (pv 0) (pv 1) (aq _))))) (zd (zr dc)) zv)
   (zd (zr (zh (jX rfl) rfl B.all j' (ac
    (zw ["found","due"] ["piece","found"] [none,some 0] (zA (zj (r9 rfl) rfl B.list eY (ac (pv 0) al))) (fun r C s₀ H₀ ex=>zk (i:=0) (bR ["piece","found"]) rfl (Or.inl rfl)) (fun r C s₀ H₀ ex=>zH)
     (fun r C s₀ H₀ ex=>Dg (zh Mf rfl B.isinstance zT (ac (pv 0) (ac (kI (v:=.ty "tuple") rfl B.tuple gG rfl) al))) (De (zq U hr rfl T Fw.kp S .nil am (ac (eT hu (pv 1) (pv 0) (fun _ _=>rfl)) al)))) (hfr:=bO (zb t6) δ)) al)))),?_⟩
  refine⟨_,rfl,a,_,rfl,p,_,rfl,aH ⟨_,rfl,_,rfl,a,b,true,rfl,rfl,Hd (.inl p) hb,_,rfl,?_⟩⟩;refine aH ⟨_,rfl,a,aK cs,rfl,.inl p,fun bs G L I=>⟨L,rfl,⟨_,SqL.of ai⟩,fun D u=>?_⟩⟩;have q:=Same.new (o:=.lst (bs.map V.ref)) I;have tb:=q.tps (tw G);have O:=tb.length;rw[kh] at O;refine zy (zG (K:=K) (a:=L) (xs:=bs.map V.ref) (fun i σ ys l=>∃v:Option V,σ=[v,some (.ref a)]/\Same (upd H L (.lst (bs.map V.ref))) l/\l D=some (.lst ys)/\ys=((cs.map fun _=>true).take i).map V.bl)
   ⟨none,rfl,Same.new u,ai,rfl⟩ (fun i σ ys l ⟨_,_,g,_⟩=>SqL.of (g _ _ ai)) ?_ ?_)
  ·rintro i σ ys l x hx hi hy ⟨v,rfl,g,d,rfl⟩
   obtain⟨t,M,rfl⟩:=zR hx;obtain⟨ps,j,y⟩:=tb.get M;unfold ksC at j;rw[Ai] at j;obtain⟨c,z,rfl⟩:∃c,cs[i]?=some c/\c.1=ps:=by
    cases h:cs[i]? with
    |none=>rw[h] at j;cases j
    |some c=>rw[h] at j;exact⟨c,rfl,An j⟩
   have e:(cs.map fun _=>true)[i]?=some true:=by rw[Ai,z];rfl
   refine cJ ?_;refine⟨_,rfl,t,_,rfl,g.tp y,_,rfl,aX ⟨_,rfl,_,rfl,a,.int c.2,rfl,.inr ⟨aK cs,c.1.map Sum.inl,t,.inl (g _ _ (q _ _ p)),rfl,tz (g.tp y),(lG J c (Ap z)).symm⟩,c.2,rfl,?_⟩⟩;exact a9 (by rw[Ab];exact zf ω) hi hy d ⟨_,rfl,g.then u,ai,by rw[AM e,Am];rfl⟩
  ·rintro σ ys l ⟨v,rfl,g,d,rfl⟩
   rw[Az (by rw[Ab,Ab];omega)] at d;refine⟨D,_,rfl,SqL.of d,?_⟩;rw[show(cs.map fun _=>true).all id=true from by rw[List.all_map,List.all_eq_true];exact fun _ _=>rfl];exact k l (q.trans g)
end
def hT(ps:List Int):Int:=reduceHash (Builtin.Tuple.tupleHashOf (ps.map hashInt))
def uj(m:Nat):List Int->Nat->Bool
 |[],_=>true
 |h::t,acc=>(Nat.beq (Nat.land 1 (Nat.shiftRight acc (h%(m:Int)).toNat)) 0)&&uj m t (Nat.lor acc (Nat.shiftLeft 1 (h%(m:Int)).toNat))
def NJ(a b:Nat):Nat.beq (Nat.land 1 (Nat.shiftRight a b)) 0=!a.testBit b:=by
 unfold Nat.testBit;show Nat.beq (1 &&& (a >>> b)) 0=!(1 &&& (a >>> b) != 0);cases h:(1 &&& (a >>> b)) with
 |zero=>rfl
 |succ n=>rfl
def He(m:Nat):∀(l:List Int)(acc:Nat),uj m l acc=true->(∀h∈l,acc.testBit (h%(m:Int)).toNat=false)/\l.Nodup
 |[],_,_=>⟨(fun h x=>nomatch x),List.nodup_nil⟩
 |h::t,acc,e=>by
  unfold uj at e;rw[AN,NJ] at e;obtain⟨e1,e2⟩:=e;obtain⟨i1,i2⟩:=He m t _ e2;have a:acc.testBit (h%(m:Int)).toNat=false:=by simpa using e1
  have key:∀x∈t,acc.testBit (x%(m:Int)).toNat=false/\(x%(m:Int)).toNat≠(h%(m:Int)).toNat:=fun x hx=>by
   have:=i1 x hx;rw[show Nat.lor acc (Nat.shiftLeft 1 (h%(m:Int)).toNat)=acc||| (1 <<< (h%(m:Int)).toNat) from rfl,Nat.testBit_or,Bool.or_eq_false_iff,Nat.one_shiftLeft,Nat.testBit_two_pow] at this;exact⟨this.1,fun z=>by have:=this.2;simp[z] at this⟩
  refine⟨fun x hx=>?_,List.nodup_cons.mpr ⟨fun hx=>(key h hx).2 rfl,i2⟩⟩;rcases List.mem_cons.mp hx with rfl|hx
  ·exact a
  ·exact(key x hx).1
def up:Nat->Int->Ξ
 |0,_=>[[]]
 |m+1,k=>up m (k+1)++(up m (k+1)).map (k::·)
def uo:∀(m:Nat)(k:Int)(e:List Int),e.Pairwise (·<·)->(∀x∈e,k<=x/\x<k+m)->e∈up m k
 |0,k,e,_,h=>by
  cases e with
  |nil=>exact List.mem_singleton.mpr rfl
  |cons x r=>have:=h x Av;omega
 |m+1,k,e,hp,h=>by
  unfold up;rw[List.mem_append];cases e with
  |nil=>exact .inl (uo m (k+1) [] .nil (fun x hx=>nomatch hx))
  |cons x r=>
   obtain⟨h1,h2⟩:=List.pairwise_cons.mp hp
   by_cases hx:x=k
   ·subst hx
    exact .inr (List.mem_map.mpr ⟨r,uo m (x+1) r h2 (fun y hy=>by have:=h1 y hy;have:=h y (Ay _ hy);omega),rfl⟩)
   ·refine .inl (uo m (k+1) _ hp fun y hy=>?_)
    have a:=h x Av;rcases List.mem_cons.mp hy with rfl|hy'
    ·omega
    ·have:=h1 y hy';have:=h y (Ay _ hy');omega
def gX:Ξ:=(up 8 0).filter fun e=>Nat.ble e.length 5
def pF:Ξ:=[[97,98],[98],[98,97],[97]]
def gZ(f g:Int):Ξ:=gX.map (cx f g)++((gX.filter fun e=>Nat.ble 2 e.length).map fun e=>(cx f g e).reverse)++pF
def CM:List Nat:=[11453,11237,12415,10521,12247,11867,12093,13093,12021,10695,11603,11949,12595,10451,12813,11059,10499,12425,13863,9283,10507,11407,11585,9801,9813,10031,11105,11903,9843,11687,10641,11395,11007,12073,10901,10481]
def Hf(i:Nat):Bool:=uj (CM.getD i 1) ((gZ ((i / 3:Nat):Int) ((i%3+1:Nat):Int)).map hT) 0
def NK:∀i,i<36->Hf i=true:=δ
def Hg{b c:Type}{f:b->c}:∀{l:List b},(l.map f).Nodup->∀x∈l,∀y∈l,f x=f y->x=y
 |[],_,_,hx,_,_,_=>absurd hx (by simp)
 |a::l,h,x,hx,y,hy,e=>by
  rw[Ax,List.nodup_cons] at h;rcases List.mem_cons.mp hx with q|hx'
  ·rcases List.mem_cons.mp hy with r|hy'
   ·rw[q,r]
   ·exact absurd (List.mem_map.mpr ⟨y,hy',by rw[<-e,q]⟩) h.1
  ·rcases List.mem_cons.mp hy with r|hy'
   ·exact absurd (List.mem_map.mpr ⟨x,hx',by rw[e,r]⟩) h.1
   ·exact Hg h.2 x hx' y hy' e
def Hh{P:Program}{w:World}(ps:List Int):Ar (intKind P w) ps=hT ps:=rfl
def Nm(f g:Int):Prop:=0<=f/\f<12/\1<=g/\g<=3
def NL{f g:Int}(h:Nm f g){x y:List Int}(hx:x∈gZ f g)(hy:y∈gZ f g)(e:hT x=hT y):x=y:=by
 obtain⟨f0,f1,a,g1⟩:=h;obtain⟨i,rfl⟩:=Int.eq_ofNat_of_zero_le f0;obtain⟨j,b⟩:=Int.eq_ofNat_of_zero_le (show 0<=g-1 from ω);obtain rfl:g=((j+1:Nat):Int):=ω
 have h:=NK (3*i+j) ω;unfold Hf at h;rw[show(3*i+j) / 3=i from ω,show(3*i+j)%3+1=j+1 from ω] at h;exact Hg (He _ _ _ h).2 x hx y hy e
def Rz(e:List Int):Prop:=e.Pairwise (·<·)/\(∀x∈e,0<=x/\x<=7)/\e.length<=5
def Rz.sub{e d:List Int}(h:Rz e)(s:d.Sublist e):Rz d:=⟨h.1.sublist s,fun x hx=>h.2.1 x (s.subset hx),AO s.length_le h.2.2⟩
def InK(f g:Int)(ps:List Int):Prop:=(∃e,Rz e/\(ps=cx f g e\/ps=(cx f g e).reverse))\/ps∈pF
def CN{e:List Int}(h:Rz e):e∈gX:=List.mem_filter.mpr ⟨uo 8 0 e h.1 (fun x hx=>by have:=h.2.1 x hx;omega),by rw[Nat.ble_eq];exact h.2.2⟩
def Hi{f g:Int}{ps:List Int}(h:InK f g ps):ps∈gZ f g:=by
 unfold gZ;rw[List.mem_append,List.mem_append];rcases h with ⟨e,he,rfl|rfl⟩|h
 ·exact .inl (.inl (List.mem_map.mpr ⟨e,CN he,rfl⟩))
 ·by_cases h2:2<=e.length
  ·exact .inl (.inr (List.mem_map.mpr ⟨e,List.mem_filter.mpr ⟨CN he,by rw[Nat.ble_eq];exact h2⟩,rfl⟩))
  ·refine .inl (.inl (List.mem_map.mpr ⟨e,CN he,?_⟩))
   cases e with
   |nil=>rfl
   |cons x r=>cases r with
    |nil=>rfl
    |cons y t=>simp at h2
 ·exact .inr h
def NM{P:Program}{w:World}{f g:Int}(h:Nm f g){pss:Ξ}(d:pss.Nodup)(hk:∀p∈pss,InK f g p):(pss.map (Ar (intKind P w))).Nodup:=by
 unfold List.Nodup at d ⊢;rw[Bf];refine d.imp_of_mem fun{a b} i hb c e=>c ?_;rw[Hh,Hh] at e;exact NL h (Hi (hk a i)) (Hi (hk b hb)) e
def NN{q:Ξ}(h:Drawn q):∃f g,Nm f g/\∀e∈canon q,∃a,Rz a/\e=cx f g a:=by
 obtain⟨b,first,d,hb,i,h1,j,l,hp⟩:=h;obtain⟨_,_,o,_⟩:=FR hb;refine⟨first,d,⟨i,h1,j,l⟩,fun e he=>?_⟩;obtain⟨w,p,hx⟩:=List.mem_flatMap.mp (sr.mp he);obtain⟨r,hr,rfl⟩:=List.mem_map.mp (hp.mem_iff.mp p);obtain⟨_,c⟩:=z0.mp hx;unfold cx at c;obtain⟨y,hy,rfl⟩:=List.sublist_map_iff.mp c;obtain⟨_,s,u,v⟩:=o r hr;exact⟨y,⟨((o7 r).mp u).sublist hy,fun x hx=>v x (hy.subset hx),AO hy.length_le s⟩,rfl⟩
end K56
end
section
namespace L2
open PySem PySem.Spec PyProof.Rows
def kr(K:Ae)(a:Addr)(n:Nat):It:=
 ⟨fun i H=>i<n/\∃xs,SqT K H a xs/\xs.length=n,fun i H x H'=>H'=H/\∀xs,SqT K H a xs->xs.reverse[i]?=some x,fun i H=>i=n/\∃xs,SqT K H a xs/\xs.length=n⟩
def NP{P:Program}{w:World}{K:Ae}{tg:Expr}(a it:Addr)(n:Nat):Turn P w K tg (kr K a n) [it] it (fun i h=>RvT.IsRT h it a ((n:Int)-1-(i:Int))) where
 mem:=by simp
 obj:=fun i h st b hb=>by
  have e:b=it:=by simpa using hb
  subst e;obtain⟨o,e,c,d⟩:=st;exact⟨o,e,fun v z=>by rw[d] at z;cases z⟩
 keep:=fun i h h' st k=>st.at fun o e=>k it (by simp) o e
 item:=by
  intro X f hw g hc i aa s σ H E I hf st j;subst f hw g;obtain⟨hi,xs,hq,C⟩:=j;obtain⟨G,r,p,hz⟩:=I.tuple hq;have hx:xs.reverse[i]?=some (xs[n-1-i]'ω):=by
   have e:xs.length-1-i=n-1-i:=ω
   rw[List.getElem?_reverse ω,e];exact Af _
  obtain⟨u,hu,D⟩:=r.get (Af (l:=xs) (i:=n-1-i) ω);obtain⟨f0,f1,f2,f3,f4,f5⟩:=hf it (by simp);have e:(n:Int)-1-(i:Int)=((n-1-i:Nat):Int):=ω
  rw[e] at st;refine RvT.next_item st p (x:=u) (by simpa using hu) (by rw[Aj,<-r.length];exact hz) fun h' tk q y=>?_;rw[show((n-1-i:Nat):Int)-1=(n:Int)-1-((i+1:Nat):Int) from ω] at q;have F:Inv X aa σ H {s with heap:=h',toks:=tk}:=I.turned (t':=tk) (fun b o hb e=>(y.2 b hb).trans e) f0 f1 f3 f4 f5;obtain⟨o,e,c,d⟩:=id q;exact⟨u,rfl,jN (s:={s with heap:=h',toks:=tk}) e c d ξ ⟨xs[n-1-i]'ω,H,F,D,⟨rfl,fun ys hy=>by rw[I.tuple_inj hy hq];exact hx⟩,q,fun b hb=>(hf b hb).1⟩⟩
 done:=by
  intro X f hw g hc i aa s σ H E I hf st j;subst f hw g;obtain⟨hi,xs,hq,C⟩:=j;obtain⟨f0,f1,f2,f3,f4,f5⟩:=hf it (by simp);rw[hi,show(n:Int)-1-(n:Int)=-1 from ω] at st;exact RvT.next_end (I.ok.hd hc) st fun h' A=>⟨rfl,I.turned (t':=s.toks) (fun b o hb e=>A b o hb e) f0 f1 f3 f4 f5⟩
 self:=fun _ _ _ _ _ st h=>RvT.Fz st h
def Hj(K:Ae)(ta:TA):TI:=fun σ H R=>ta σ H fun vs H1=>∃a xs,vs=[.ref a]/\SqT K H1 a xs/\R (kr K a xs.length) H1
section
variable{X:Cx}{tg:Expr}
def NQ{e:Expr}{ta:TA}{p pos:Pos}(r:Gl X "reversed")(hm:X.mg "reversed"=none)(v:AX "reversed"=some (.type "reversed"))(w:PA X [e] ta)(he:starEach [e] X.env=[(false,eval e X.env)]:=by rfl):PI X tg (.Call (.Name "reversed" p) [e] [] pos) (Hj X.K ta):=by
 intro aa s σ H R I h;refine Call_ (je I r hm v (PyProof.Rows.callWith_type1 (aL (w pos aa s σ H _ I h) fun us c ⟨vs,H1,I1,g,i⟩=>?_) he rfl));obtain⟨a,xs,rfl,hx,q⟩:=i;obtain⟨u,rfl,j⟩:=vals1 g;cases j;obtain⟨d,f,p2,hz⟩:=I1.tuple hx;have l:d.toArray.size<=sizeLine:=by rw[Aj,<-f.length];exact hz
 refine RvT.Lo p2 l fun tk=>?_;refine RvT.Fz (s:={c with heap:=c.heap.push (RvT.ka a ((d.toArray.size:Int)-1)),toks:=tk}) ⟨_,Al _ rfl,rfl,rfl⟩ ?_;refine⟨c⁻¹,[c⁻¹],_,_,H1,rfl,I1.kept fun b o e=>Ad _ e,NP a _ xs.length,⟨_,Al _ rfl,rfl,?_⟩,fun b hb=>?_,q⟩
 ·show Data.fields #[.ref a,rawInt ((d.toArray.size:Int)-1)]=Data.fields #[.ref a,rawInt ((xs.length:Int)-1-((0:Nat):Int))]
  rw[Aj,f.length];simp
 ·have e:b=c⁻¹:=by simpa using hb
  subst e;exact I1.fpOk (Ag _) (I1.hok.fresh (Ag _))
end
def NR{K:Ae}{a D:Addr}{xs:List V}{g:TG}{tc:TT}{te:TE}{σ:St}{H1:Hp}{Q:VK}(c:Nat->St->List V->Hp->Prop)(j:c 0 σ [] (upd H1 D (.lst [])))(f:∀i σ ys H,c i σ ys H->SqT K H a xs)(hs:∀i σ ys H x,xs.reverse[i]?=some x->i<xs.length->ys.length<=i->c i σ ys H->g x σ H fun d l=>tc d l fun b h=>if b=true then te d h (dL xs.length c D i d) else cv xs.length c i d h)(hd:∀σ ys H,c xs.length σ ys H->Q (.ref D) H):cG (kr K a xs.length) g tc te σ H1 D Q:=by
 refine jr xs.length c j (fun σ ys H p=>⟨rfl,xs,f _ _ _ _ p,rfl⟩) (fun i σ ys H hi p=>⟨hi,xs,f _ _ _ _ p,rfl⟩) (fun i σ ys H x H' hi hy p y=>?_) hd;obtain⟨e,y⟩:=y;subst e;exact hs i σ ys _ x (y xs (f _ _ _ _ p)) hi hy p
end L2
end
section
namespace K56
open K1
open PySem L2 STb
def b8(p:List Int):List Int:=p.reverse.map fun x=>99-x
def uv(p:List Int):b8 (b8 p)=p:=by
 unfold b8;rw[<-List.map_reverse,List.reverse_reverse,At]
 conv=>rhs;rw[<-List.map_id p]
 refine A7 fun x _=>?_;show 99-(99-x)=x;omega
def Hk{p q:List Int}(h:b8 p=b8 q):p=q:=by rw[<-uv p,h,uv]
def NS{p q:List Int}(h:p.Sublist q):(b8 p).Sublist (b8 q):=(h.reverse).map _
def Hl{p:List Int}(h:p≠[]):b8 p≠[]:=fun z=>h (Hk (q:=[]) z)
def Hm(p:List Int):(b8 p).length=p.length:=by unfold b8;rw[Ab,List.length_reverse]
def NT{p:List Int}(h:eX p=true):eX (b8 p)=true:=by
 obtain⟨c,d,hr,hp⟩:=lu.mp h;refine lu.mpr ⟨Hl c,by rw[Hm];exact d,fun x hx=>?_,?_⟩
 ·obtain⟨y,hy,rfl⟩:=List.mem_map.mp hx
  have:=hr y (List.mem_reverse.mp hy);omega
 ·unfold b8
  rw[Bf,List.pairwise_reverse];exact hp.imp fun{a b} e=>ω
def NU(pss:Ξ):(dd ((pss.map b8).flatMap parts)).length<=(dd (pss.flatMap parts)).length:=by
 have e:((dd (pss.flatMap parts)).map b8).length=(dd (pss.flatMap parts)).length:=Ab _;rw[<-e];refine(lc _).length_le_of_subset fun x hx=>?_;rw[gv,List.mem_flatMap] at hx;obtain⟨p,hm,hx⟩:=hx;obtain⟨r,hr,rfl⟩:=List.mem_map.mp hm;obtain⟨a,b⟩:=z0.mp hx;refine List.mem_map.mpr ⟨b8 x,(gv _ _).mpr (List.mem_flatMap.mpr ⟨r,hr,z0.mpr ⟨Hl a,?_⟩⟩),uv x⟩;have:=NS b
 rwa [uv] at this
def NV{pss:Ξ}(hw:bI pss=true)(a:pss.Nodup)(d:(canon pss).length<=56):b0 (pss.map b8)/\(canon (pss.map b8)).length<=56:=by
 obtain⟨b,hp,_,c⟩:=iO hw;have hf:=NU pss;rw[<-zS,<-zS] at hf;refine⟨⟨FP (by rw[Ab];exact b) ?_ (fun p hm=>?_) ?_,ω⟩,ω⟩
 ·unfold List.Nodup at a ⊢
  rw[Bf];exact a.imp fun{x y} e z=>e (Hk z)
 ·obtain⟨r,hr,rfl⟩:=List.mem_map.mp hm
  exact NT (hp r hr)
 ·rw[<-zS]
  omega
def CO{pss:Ξ}:(dots (canon pss)).Nodup:=by
 unfold dots List.Nodup;rw[Bf];have d:(canon pss).Nodup:=(o6 pss).nodup_iff.mpr (lc _);refine(List.Pairwise.sublist List.filter_sublist d).imp_of_mem fun{a b} c hb h=>?_;have e:a.length=1:=by simpa using (List.mem_filter.mp c).2
 have f:b.length=1:=by simpa using (List.mem_filter.mp hb).2
 match a,b,e,f with
 |[x],[y],_,_=>exact fun z=>h (by rw[show x=y from z])
def Hn{ns:List (Int×Int)}{x y:Int}(h:x∉ns.map (·.1)):putK (kZ ns) (Sum.inl x) (V.int y)=kZ (ns++[(x,y)]):=by
 unfold putK;rw[if_neg ?_]
 ·rw[kZ,kZ,Am,Am];rfl
 ·intro z
  obtain⟨kv,h1,h2⟩:=List.any_eq_true.mp z;rw[kZ,At] at h1;obtain⟨p,hp,rfl⟩:=List.mem_map.mp h1;exact h (List.mem_map.mpr ⟨p,hp,Sum.inl.inj (of_decide_eq_true h2)⟩)
def Ho{ns:List (Int×Int)}{x y:Int}(h:x∈ns.map (·.1)):∃ms:List (Int×Int),putK (kZ ns) (Sum.inl x) (V.int y)=kZ ms/\ms.map (·.1)=ns.map (·.1):=by
 refine⟨ns.map fun p=>if p.1=x then(p.1,y) else p,?_,?_⟩
 ·unfold putK
  rw[if_pos ?_]
  ·rw[kZ,kZ,At,At,At,At]
   refine A7 fun p _=>?_
   by_cases e:p.1=x
   ·simp[e]
   ·simp[e]
  ·obtain⟨p,hp,e⟩:=List.mem_map.mp h
   refine List.any_eq_true.mpr ⟨(Sum.inl p.1,V.int p.2),?_,by simp[e]⟩;rw[kZ,At];exact List.mem_map.mpr ⟨p,hp,rfl⟩
 ·rw[At]
  refine A7 fun p _=>?_;show(if p.1=x then(p.1,y) else p).1=p.1;split<;>rfl
def Hq:∀(ns:List (Int×Int)),(ns.map (·.1)).Nodup->foldZ (kZ ns)=kZ ns:=pj (P:=fun ns:List (Int×Int)=>(ns.map (·.1)).Nodup->foldZ (kZ ns)=kZ ns) (fun _=>rfl) (fun l t a h=>by
 rw[Am] at h;have h':=List.nodup_append.mp h;have e:kZ (l++[t])=kZ l++[((Sum.inl t.1:Key),V.int t.2)]:=by rw[kZ,kZ,Am,Am];rfl
 rw[e];unfold foldZ at a ⊢;rw[List.foldl_append,a h'.1];show putK (kZ l) (Sum.inl t.1) (V.int t.2)=_;rw[Hn (fun z=>h'.2.2 _ z t.1 (by simp) rfl),e])
abbrev g0:Stmt:=top 59
abbrev io:List Str:=["box","web","known","other","way","dots","names","one","two","edges","piece"]
structure W2(H0 H:Hp)(p O KN OT:Addr)(os ks bs:List Addr)(pss af:Ξ):Prop where
 sb:zx p H0 H
 bx:zK H p
 hO:H O=some (.lst (os.map V.ref))
 ho:Tps H os pss
 hK:H KN=some (.lst (ks.map V.ref))
 hk:Tps H ks (canon pss)
 hT:H OT=some (.lst (bs.map V.ref))
 hb:Tps H bs af
def W2.same{a H H':Hp}{p O KN OT:Addr}{os ks bs:List Addr}{pss af:Ξ}(h:W2 a H p O KN OT os ks bs pss af)(s:Same H H'):W2 a H' p O KN OT os ks bs pss af:=
 ⟨h.sb.trans (zx.of s),h.bx.same s,s _ _ h.hO,s.tps h.ho,s _ _ h.hK,s.tps h.hk,s _ _ h.hT,s.tps h.hb⟩
def W2.box{a H H':Hp}{p O KN OT:Addr}{os ks bs:List Addr}{pss af:Ξ}(h:W2 a H p O KN OT os ks bs pss af)(s:zx p H H')(b:zK H' p):W2 a H' p O KN OT os ks bs pss af:=
 ⟨h.sb.trans s,b,s _ _ (h.bx.ne h.hO) h.hO,s.tps h.bx h.ho,s _ _ (h.bx.ne h.hK) h.hK,s.tps h.bx h.hk,s _ _ (h.bx.ne h.hT) h.hT,s.tps h.bx h.hb⟩
def iW{H:Hp}{p M:Addr}{kvs:List (Key×V)}(b:zK H p)(h:H M=some (.dK kvs)):M≠p:=by
 obtain⟨x,y,e,_⟩:=b;exact a0 h e (by intro z;cases z)
def W2.put{c H:Hp}{p O KN OT M:Addr}{os ks bs:List Addr}{pss af:Ξ}{kvs:List (Key×V)}{o:HO}(h:W2 c H p O KN OT os ks bs pss af)(d:H M=some (.dK kvs))(f:c M=none):W2 c (upd H M o) p O KN OT os ks bs pss af:=by
 have k1:∀{b:Addr}{u:HO},H b=some u->(∀z,u≠.dK z)->upd H M o b=some u:=fun{b u} e n=>by rw[zl (a0 e d (n _))];exact e
 have a:∀{as:List Addr}{l:Ξ},Tps H as l->Tps (upd H M o) as l:=fun t=>Paired.mapP t fun b q hb=>k1 (show H b=some _ from hb) (by intro z y;cases y);refine⟨fun b u hb e=>?_,?_,k1 h.hO (by intro z y;cases y),a h.ho,k1 h.hK (by intro z y;cases y),a h.hk,k1 h.hT (by intro z y;cases y),a h.hb⟩
 ·rw[zl (zg e f)];exact h.sb _ _ hb e
 ·obtain⟨x,y,e,r⟩:=h.bx
  exact⟨x,y,k1 e (by intro z y;cases y),r⟩
abbrev NW(K:Ae):List V->Hp->VK->Prop:=fun xs H Q=>∃p ys,xs=[.ref p]/\((SqL K H p ys/\∀l,H l=none->Q (.ref l) (upd H l (.tup ys)))\/(SqT K H p ys/\Q (.ref p) H))
abbrev pG(K:Ae):TE:=eQ (NW K) (zJ (k9 (Hj K (zJ (ax 0) a8)) [none] (cA 0) ci (cb (fL fun i j=>.int (i-j)) (tC (.int 99)) (ax 0))) a8)
abbrev Hr(K:Ae):TT:=hU (cb nh (eQ (fun xs H Q=>∃p ys,xs=[.ref p]/\(SqL K H p ys\/SqT K H p ys)/\Q (.int ys.length) H) (zJ (ax 0) a8)) (tC (.int 2)))
abbrev CP(K:Ae):TE:=dq (zJ (cb (dD K) (ax 0) (tC (.int 0))) (zJ (cb (dD K) (ax 0) (tC (.int 0))) a8))
abbrev CQ(K:Ae):TE:=dq (zJ (cb (dD K) (ax 0) (tC (.int 0))) (zJ (cb (fL fun i j=>.int (i-j)) (tC (.int 99)) (cb (dD K) (ax 0) (tC (.int 0)))) a8))
abbrev PZ(H:Hp)(ts:List Addr)(kvs:List (Key×V)):Prop:=Paired (fun t(kv:Key×V)=>H t=some (.tup [kV kv.1,kv.2])) ts kvs
section
variable{P:Program}{w:World}{K:Ae}{mg:Str->Option Value}{base:Heap}
def NX{H2:Hp}{L D:Addr}{as:List Addr}{g:Ξ}{Q:VK}(r:SqL K H2 L (as.map V.ref))(l:Tps H2 as g)(hz:g.length<=1000)(o:H2 D=none)(k:∀(a:Hp)(es:List Addr),Same H2 a->a D=some (.lst (es.map V.ref))->es.length<=g.length->(∀e∈es,∃x y,Tp a e [x,y])->Q (.ref D) a):cG (dv K L) (cA 0) (Hr K) (ax 0) [none] H2 D Q:=by
 have q:=l.length;refine zG (xs:=as.map V.ref) (fun i σ ys a=>∃(v:Option V)(es:List Addr),σ=[v]/\Same H2 a/\a D=some (.lst ys)/\ys=es.map V.ref/\es.length<=i/\∀e∈es,∃x y,Tp H2 e [x,y])
  ⟨none,[],rfl,Same.new o,ai,rfl,Ag _,fun e he=>nomatch he⟩ (fun i σ ys a ⟨_,_,_,d,_⟩=>d.seq r) ?_ ?_
 ·rintro i σ ys a z hx hi hy ⟨v,es,rfl,d,b,rfl,f,c⟩
  obtain⟨t,p,rfl⟩:=zR hx;obtain⟨ps,s,j⟩:=l.get p;refine⟨_,rfl,t,_,rfl,.inr (SqT.of (d.tp j)),rfl,_,rfl,?_⟩;rw[show(ps.map V.int).length=ps.length from Ab _]
  by_cases h1:ps.length=2
  ·rw[decide_eq_true (by rw[h1];rfl)]
   refine aX ⟨_,rfl,a9 (by rw[Ab];exact zf ω) hi hy b ⟨_,es++[t],rfl,d.then o,ai,by rw[Am];rfl,by rw[As,List.length_singleton];omega,fun e he=>?_⟩⟩;rcases List.mem_append.mp he with he|he
   ·exact c e he
   ·obtain rfl:=List.mem_singleton.mp he
    match ps,h1 with
    |[x,y],_=>exact⟨x,y,j⟩
  ·rw[decide_eq_false (fun z=>h1 (by injection z with z;omega))]
   exact aH (cS hi hy ⟨_,es,rfl,d,b,rfl,ω,c⟩)
 ·rintro σ ys a ⟨v,es,rfl,d,b,rfl,f,c⟩
  rw[Ab,q] at f;exact k a es d b f fun e he=>by obtain⟨x,y,h⟩:=c e he;exact⟨x,y,d.tp h⟩
def Hs{H2:Hp}{L D:Addr}{as:List Addr}{p:Ξ}{te:TE}{g:Int->Int}{Q:VK}(J:SqL K H2 L (as.map V.ref))(y:Tps H2 as p)(hz:p.length<=1000)(M:∀(t:Addr)(x:Int)(c:Hp)(C:VK),Tp c t [x]->(∀u,c u=none->C (.ref u) (upd c u (.tup [.int x,.int (g x)])))->te [some (.ref t)] c C)(A:H2 D=none)(k:∀(c:Hp)(ts:List Addr),Same H2 c->c D=some (.lst (ts.map V.ref))->PZ c ts (kZ ((dots p).map fun x=>(x,g x)))->Q (.ref D) c):cG (dv K L) (cA 0) (kq K) te [none] H2 D Q:=by
 have F:=y.length;have G:∀l:List (Int×Int),∀q:Int×Int,kZ (l++[q])=kZ l++[((Sum.inl q.1:Key),V.int q.2)]:=fun l q=>by rw[kZ,kZ,Am,Am];rfl
 have I:∀{H H':Hp}{ts:List Addr}{kvs:List (Key×V)},PZ H ts kvs->Same H H'->PZ H' ts kvs:=fun h s=>Paired.mapP h fun _ _ e=>s _ _ e;refine zG (xs:=as.map V.ref) (fun i σ ys c=>∃(v:Option V)(ts:List Addr),σ=[v]/\Same H2 c/\c D=some (.lst ys)/\ys=ts.map V.ref/\PZ c ts (kZ ((dots (p.take i)).map fun x=>(x,g x))))
  ⟨none,[],rfl,Same.new A,ai,rfl,.nil⟩ (fun i σ ys c ⟨_,_,_,f,_⟩=>f.seq J) ?_ ?_
 ·rintro i σ ys c z hx hi hy ⟨v,ts,rfl,f,d,rfl,hp⟩
  obtain⟨t,E,rfl⟩:=zR hx;obtain⟨ps,r,w⟩:=y.get E;refine⟨_,rfl,t,_,rfl,.inr (SqT.of (f.tp w)),rfl,_,rfl,?_⟩;rw[show(ps.map V.int).length=ps.length from Ab _]
  by_cases h1:ps.length=1
  ·rw[decide_eq_true (by rw[h1];rfl)]
   match ps,h1 with
   |[x],_=>
    refine aX (M t x c _ (f.tp w) fun u hu=>?_);have j:=Same.new (o:=.tup [.int x,.int (g x)]) hu;refine a9 (by rw[Ab];exact zf ω) hi hy (j _ _ d) ⟨_,ts++[u],rfl,(f.trans j).then A,ai,by rw[Am];rfl,?_⟩;rw[AM r,lY,show(if [x].length=1 then [[x].headD 0] else [])=[x] from rfl,Am,show([x].map fun x=>(x,g x))=[(x,g x)] from rfl,G];refine Paired.mapP (Paired.snoc (I hp j) (b:=((Sum.inl x:Key),V.int (g x))) (a:=u) ai) fun b q e=>?_;rw[zl (a0 e (j _ _ d) (by intro z;cases z))];exact e
  ·rw[decide_eq_false (fun z=>h1 (by injection z with z;omega))]
   refine aH (cS hi hy ⟨_,ts,rfl,f,d,rfl,?_⟩);rw[AM r,lY,if_neg h1,List.append_nil];exact hp
 ·rintro σ ys c ⟨v,ts,rfl,f,d,rfl,hp⟩
  rw[Ab,F,take_all] at hp;exact k c ts f d hp
def NY{H2:Hp}{L D:Addr}{as:List Addr}{pss:Ξ}{Q:VK}(H:SqL K H2 L (as.map V.ref))(w:Tps H2 as pss)(hz:pss.length<=1000)(I:∀p∈pss,p.length<=5)(y:H2 D=none)(k:∀(a:Hp)(ts:List Addr),Same H2 a->a D=some (.lst (ts.map V.ref))->Tps a ts (pss.map b8)->Q (.ref D) a):cG (dv K L) (cA 0) ci (pG K) [none] H2 D Q:=by
 have J:=w.length;refine zG (xs:=as.map V.ref) (fun i σ ys a=>∃(v:Option V)(ts:List Addr),σ=[v]/\Same H2 a/\a D=some (.lst ys)/\ys=ts.map V.ref/\Tps a ts ((pss.map b8).take i))
  ⟨none,[],rfl,Same.new y,ai,rfl,.nil⟩ (fun i σ ys a ⟨_,_,_,c,_⟩=>c.seq H) ?_ ?_
 ·rintro i σ ys a z hx hi hy ⟨v,ts,rfl,c,b,rfl,hp⟩
  obtain⟨t,C,rfl⟩:=zR hx;obtain⟨ps,r,s⟩:=w.get C;have G:=I ps (Ap r);refine cJ ?_;refine⟨_,rfl,t,_,rfl,SqT.of (c.tp s),fun A l=>zy (NR (K:=K) (xs:=ps.map V.int) (fun j σ ys f=>∃v:Option V,σ=[v]/\Same a f/\f A=some (.lst ys)/\ys=((b8 ps).take j).map V.int) ⟨none,rfl,Same.new l,ai,rfl⟩ (fun j σ ys f ⟨_,_,d,_⟩=>SqT.of (d.tp (c.tp s))) ?_ ?_)⟩
  ·rintro j σ ys f x hx E F ⟨v,rfl,d,g,rfl⟩
   rw[<-List.map_reverse] at hx;obtain⟨q,eq,rfl⟩:=ii hx;have e:(b8 ps)[j]?=some (99-q):=by unfold b8;rw[Ai,eq];rfl
   refine cJ ⟨_,rfl,_,_,rfl,rfl,a9 (by rw[Ab];exact zf ω) E F g ⟨_,rfl,d.then l,ai,by rw[AM e,Am];rfl⟩⟩
  ·rintro σ ys f ⟨v,rfl,d,g,rfl⟩
   rw[Az (by rw[Hm,Ab];exact Ag _)] at g;refine⟨A,_,rfl,.inl ⟨SqL.of g,fun u hu=>?_⟩⟩;have h:=d.trans (Same.new (o:=.tup ((b8 ps).map V.int)) hu);have e:(pss.map b8)[i]?=some (b8 ps):=by rw[Ai,r];rfl
   refine a9 (by rw[Ab];exact zf ω) hi hy (h _ _ b) ⟨_,ts++[u],rfl,(c.trans h).then y,ai,by rw[Am];rfl,?_⟩;rw[AM e];exact Tps.upd (Tps.append (h.tps hp) (.cons ai .nil)) (h _ _ b) (by intro xs z;cases z)
 ·rintro σ ys a ⟨v,ts,rfl,c,b,rfl,hp⟩
  rw[Az (by rw[Ab,Ab];omega)] at hp;exact k a ts c b hp
end
end K56
end
section
namespace L2
open PySem PySem.Spec PyProof.Rows
section
variable{X:Cx}{scope:Scope}{N':List Str}{au:List (Option Nat)}{tg iter cm:Expr}{bD:List Expr}{wi:TI}{g:TG}{tc:TT}{te:TE}{pos:Pos}
def NZ{i:Nat}{x:Str}{aY w:Pos}(hc:X.calm=true)(hk:scope.kind=.function)(F:∀y∈scope.names,y.2≠.cell)(P:∀y∈scope.names,y.2=.local->scope.names.lookup y.1=some .local)(hfr:∀y∈scope.names,y.2=.free->X.env.kindOf y.1=some .cell\/X.env.kindOf y.1=some .free)(Q:rg X.N N' au scope)(hi:PI X tg iter wi)(S:∀d C s₀ H₀ ex,PG (cxC X scope N' d C s₀ H₀ ex) tg g)(T:∀d C s₀ H₀ ex,jl (cxC X scope N' d C s₀ H₀ ex) bD tc)(he:∀d C s₀ H₀ ex,PE (cxC X scope N' d C s₀ H₀ ex) cm te)(hs:∀x,foldedSetIterable iter X.env x=pure x)(U:X.N.Nodup)(p:X.N[i]?=some x)(hx:Loc X.env.scope x)(hf:X.fn x=true\/X.env.scope.names.lookup x=some .local)(W:swapsWith (.ListComp cm [⟨tg,iter,bD,0⟩] scope pos) (some (.Name x aY)) w.line X.env=pure true):PS X (.Assign [.Name x aY] (.ListComp cm [⟨tg,iter,bD,0⟩] scope pos) w) (ip (k9 wi au g tc te) (cA i)):=by
 intro aa s σ H D I h;rw[exec_Assign_Name_used _ _ _ _ W];refine Aa (wpAny_standAt (Aa ?_));show wpAny _ X.A (do let _ <-comprehension (.ListComp cm [⟨tg,iter,bD,0⟩] scope pos) scope X.env _ (newList []) (firstAsync [⟨tg,iter,bD,0⟩]) (firstIter [⟨tg,iter,bD,0⟩] X.env) (some (assign (.Name x aY) X.env))) _ _ s;refine Aa (wpAny_mono (Ef (use:=some (assign (.Name x aY) X.env)) (R:=fun _ s'=>SP X aa D .next s') hc hk F P hfr Q hi S T he hs I h fun E C H' r f L q=>?_) (fun _ s' hq=>Ac (Ac hq)) fun _ _ e=>e);show wpAny _ X.A (assign (.Name x aY) X.env (.ref E)) _ _ r;refine wpAny_assign_Name (Dd (v:=.ref E) (L.back r.heap (Heap.SameBut.refl _ _)) U p hx rfl (fun G I5 ⟨a,l,J⟩=>?_) hf);have O:C≠a:=by
  rcases J with e|e
  ·rw[e];exact L.nl
  ·exact fun z=>L.nc x a e z.symm
 obtain⟨m,M⟩:=L.ns;refine⟨m,M.sameBut l O,fun h' j=>⟨_,H',?_,q⟩⟩;refine I5.call' (s':={G with heap:=h'}) (ch:=[C]) rfl ⟨fun b o q n hb hx=>?_,fun b o q n hb hx=>?_,fun b o q n hx=>n,fun b o q hx=>?_,fun b xs q=>q,fun b o u q=>q,fun b ps q=>⟨#[],by simpa using q⟩⟩ ?_ I5.bare fun b hb=>?_
 ·exact(j.2 b (by simpa using hx)).trans q
 ·exact⟨o.slots,(j.2 b (by simpa using hx)).trans q⟩
 ·exact⟨o,(j.2 b (by simpa using hx)).trans q⟩
 ·intro b u e
  refine(I5.hok b u e).stay (fun c v hc q=>(j.2 c ?_).trans q) (fun _ q=>q) fun _ _ q=>q;rintro rfl;rcases hc with z|z
  ·rw[<-z,L.no] at e;cases e
  ·rw[L.no] at z;cases z
 ·have e:b=C:=by simpa using hb
  subst e;exact⟨.inr L.far,L.nl,L.nc,L.np⟩
end
section
variable{X:Cx}{scope:Scope}{au:List (Option Nat)}{tg iter cm:Expr}{bD:List Expr}{wi:TI}{g:TG}{tc:TT}{te:TE}{pos:Pos}
def ux{i:Nat}{x:Str}{aY c:Pos}(d:X.N.Nodup)(b:X.N[i]?=some x)(hx:Loc X.env.scope x)(N N':List Str)(au:List (Option Nat))(hi:PI X tg iter wi)(e:∀a C s₀ H₀ ex,PG (cxC X scope N' a C s₀ H₀ ex) tg g)(f:∀a C s₀ H₀ ex,jl (cxC X scope N' a C s₀ H₀ ex) bD tc)(he:∀a C s₀ H₀ ex,PE (cxC X scope N' a C s₀ H₀ ex) cm te)(hc:X.calm=true:=by rfl)(hk:scope.kind=.function:=by rfl)(h:∀y∈scope.names,y.2≠.cell:=by decide +kernel)(j:∀y∈scope.names,y.2=.local->scope.names.lookup y.1=some .local:=by decide +kernel)(hfr:∀y∈scope.names,y.2=.free->X.env.kindOf y.1=some .cell\/X.env.kindOf y.1=some .free)(l:X.N=N:=by rfl)(o:iK N N' au scope=true:=by decide +kernel)(hs:∀x,foldedSetIterable iter X.env x=pure x:=by intro _;rfl)(hf:X.fn x=true\/X.env.scope.names.lookup x=some .local:=by first|exact .inl rfl|exact .inr rfl|assumption)(p:swapsWith (.ListComp cm [⟨tg,iter,bD,0⟩] scope pos) (some (.Name x aY)) c.line X.env=pure true:=by rfl):PS X (.Assign [.Name x aY] (.ListComp cm [⟨tg,iter,bD,0⟩] scope pos) c) (ip (k9 wi au g tc te) (cA i)):=
 NZ hc hk h j hfr (E6 (by rw[l];exact o)) hi e f he hs d b hx hf p
end
end L2
end
section
namespace K56
open K1
open PySem L2 STb
section
variable{P:Program}{w:World}{K:Ae}{mg:Str->Option Value}{base:Heap}
def Ht:Sp:=fun vs H Q _=>∃p,vs=[.ref p]/\zK H p/\∀T O OT M os bs pss af ns H',zx p H H'->zK H' p->H' T=some (.tup [.ref O,.ref OT,.ref M])->H' O=some (.lst (os.map V.ref))->Tps H' os pss->Drawn pss->H' OT=some (.lst (bs.map V.ref))->Tps H' bs af->b0 af->(canon af).length<=56->H' M=some (zV ns)->ns.map (·.1)=dots (canon pss)->Q (.ref T) H'
def dy:zn io ["box"] (zb g0):=⟨rfl,rfl,rfl,δ,rfl,δ,δ⟩
def N0(p:List Int)(h:p≠[]):∃y,atI (p.map V.int) (-1)=some (.int y):=by
 rw[<-List.dropLast_concat_getLast h,Am];exact⟨_,DH _ _⟩
def N1(p:List Int)(h:p≠[]):∃x r,p=x::r:=by
 cases p with
 |nil=>exact absurd rfl h
 |cons x r=>exact⟨x,r,rfl⟩
def N2{f ft fw fl:Addr}{fd di cp eV:FuncData}(F:Fun K "_law_pair" "_law_pair" g0 f fd)(B:Bt mg)(Ft:Fun K "_law_take" "_law_take" kf ft di)(bt:Binds K di ["box","most"] [])(mt:mg "_law_take"=some (.ref ft))(Fw:Fun K "_law_web" "_law_web" iL fw cp)(bw:Binds K cp ["box"] [])(mw:mg "_law_web"=some (.ref fw))(Gw:FnOk P w K mg base aw 3 fw cp ["box"] FK)(Fl:Fun K "_law_pieces" "_law_pieces" sh fl eV)(bl:Binds K eV ["web"] [])(ml:mg "_law_pieces"=some (.ref fl))(Gl:FnOk P w K mg base aw 2 fl eV ["web"] (lj K)):FnOk P w K mg base aw 4 f fd ["box"] Ht:=by
 have Gt:FnOk P w K mg base aw 1 ft di ["box","most"] kg:=oI Ft;refine F.ok dy (fun vs H Q E h=>?_) (fun cdv A outer s H vs Q E hr h=>?_)
 ·obtain⟨p,rfl,_⟩:=h;rfl
 ·obtain⟨p,rfl,hb,k⟩:=h
  have hu:=dr hr;have av:=hr.units;have I:Room 1 _:=hr.mono ξ;have jo:Room 2 _:=hr.mono ξ;have vC:∃tr,PSs (bh aw P w K mg base io "_law_pair" (zb g0) f cdv A outer s H E).nox (List.drop 13 (zP g0)) tr/\
    ∀(O KN OT M:Addr)(os ks bs:List Addr)(pss af:Ξ)(ns:List (Int×Int))(c:Int)(v v7 v8 S G:Option V)(H2:Hp),W2 H H2 p O KN OT os ks bs pss af->Drawn pss->b0 af->(canon af).length<=56->H2 M=some (zV ns)->ns.map (·.1)=dots (canon pss)->
     tr {nx:=fun _ H'=>Q .non H',rt:=Q} [some (.ref p),some (.ref O),some (.ref KN),some (.ref OT),some (.int c),v,some (.ref M),v7,v8,S,G] H2:=by
   refine⟨_,za (zN (zo c_ (pv 4) ze (aq _))
     (za (zp (i:=6) dy.nd rfl (Or.inl rfl) (zj (tL rfl av) rfl B.dict ig (ac (zw io ["piece"] [none] (zA (pv 2)) (fun l C s₀ H₀ ex=>zk (i:=0) (bR ["piece"]) rfl (Or.inl rfl))
      (fun l C s₀ H₀ ex=>gh (zo c_ (zh zi rfl B.len zM (ac (pv 0) al)) ze (aq _)))
      (fun l C s₀ H₀ ex=>fQ (ac (zI eR (pv 0) ze (fun _ _=>rfl)) (ac (zD kN ze (zI eR (pv 0) ze (fun _ _=>rfl))) al))) (hfr:=bN δ) (tc:=kq K) (te:=CQ K)) al)))
     (zd (ux (i:=3) dy.nd rfl (Or.inl rfl) io ["piece"] [none] (zA (pv 1)) (fun l C s₀ H₀ ex=>zk (i:=0) (bR ["piece"]) rfl (Or.inl rfl)) (fun l C s₀ H₀ ex=>zH)
      (fun l C s₀ H₀ ex=>zj zE rfl B.tuple gG (ac (zw ["piece"] ["point"] [none] (NQ rfl B.reversed KA (ac (pv 0) al)) (fun l C s₀ H₀ ex=>zk (i:=0) (bR ["point"]) rfl (Or.inl rfl)) (fun l C s₀ H₀ ex=>zH)
       (fun l C s₀ H₀ ex=>zD kN ze (pv 0)) (hfr:=bN δ)) al)) (hfr:=bN δ) (te:=pG K)))) zv)
    (zd (zr (fQ (ac (pv 1) (ac (pv 3) (ac (pv 6) al)))))),?_⟩
   intro O KN OT M os ks bs pss af ns c v v7 v8 S G H2 W d hv X hM hd;obtain⟨hw,cn,n8⟩:=lv d;obtain⟨_,_,h5,_⟩:=iO hw;have jI:(canon pss).length<=56:=by rw[zS];exact lC d
   refine⟨_,rfl,rfl,_,rfl,bc (fun _=>?_) (fun _=>?_)⟩
   ·refine⟨_,rfl,KN,rfl,⟨_,SqL.of W.hK⟩,fun D hD=>zy (Hs (g:=fun x=>99-x) (SqL.of W.hK) W.hk ω (fun t x U Q' ht q=>?_) hD fun U ts s3 h3 pz=>⟨D,ts,_,rfl,SqL.of h3,pz,fun M2 lh=>?_⟩)⟩
    ·exact⟨_,rfl,t,_,0,.int x,rfl,rfl,SqT.of ht,zu (j:=0) rfl,_,rfl,t,_,0,.int x,rfl,rfl,SqT.of ht,zu (j:=0) rfl,_,_,rfl,rfl,zf (by simp),q⟩
    have u:(((dots (canon pss)).map fun x=>(x,99-x)).map (·.1))=dots (canon pss):=by rw[At];exact List.map_id' _
    rw[Hq _ (by rw[u];exact CO)];have s4:=s3.trans (Same.new (o:=zV ((dots (canon pss)).map fun x=>(x,99-x))) lh);have W4:=W.same s4;have gE:=ai (H:=U) (a:=M2) (o:=zV ((dots (canon pss)).map fun x=>(x,99-x)));refine⟨_,rfl,O,rfl,⟨_,SqL.of W4.hO⟩,fun D2 aE=>zy (NY (SqL.of W4.hO) W4.ho ω h5 aE fun H5 us s5 Y t5=>?_)⟩;have W5:=W4.same s5;obtain⟨m1,m2⟩:=NV hw cn jI;refine⟨_,rfl,_,rfl,_,rfl,zf (by simp),fun T hT=>?_⟩;have sT:=Same.new (o:=.tup [.ref O,.ref D2,.ref M2]) hT;have W6:=W5.same sT;exact k T O D2 M2 os us pss _ _ _ W6.sb W6.bx ai W6.hO W6.ho d (sT _ _ Y) (sT.tps t5) m1 m2 (sT _ _ (s5 _ _ gE)) u
   ·refine⟨_,rfl,_,rfl,_,rfl,zf (by simp),fun T hT=>?_⟩
    have sT:=Same.new (o:=.tup [.ref O,.ref OT,.ref M]) hT;have W6:=W.same sT;exact k T O OT M os bs pss af ns _ W6.sb W6.bx ai W6.hO W6.ho d W6.hT W6.hb hv X (sT _ _ hM) hd
  obtain⟨sP,kw,cq⟩:=vC;have vU:∃tr,PSs (bh aw P w K mg base io "_law_pair" (zb g0) f cdv A outer s H E).nox (List.drop 11 (zP g0)) tr/\
    ∀(O KN OT M:Addr)(os ks bs:List Addr)(pss af:Ξ)(c x1 x2:Int)(v S G:Option V)(H2:Hp),W2 H H2 p O KN OT os ks bs pss af->Drawn pss->b0 af->(canon af).length<=56->H2 M=some (zV [])->H M=none->
     tr {nx:=fun _ H'=>Q .non H',rt:=Q} [some (.ref p),some (.ref O),some (.ref KN),some (.ref OT),some (.int c),v,some (.ref M),some (.int x1),some (.int x2),S,G] H2:=by
   refine⟨_,za (zZ AU rfl (zA (pv 2)) (zk (i:=10) dy.nd rfl (Or.inl rfl))
     (zd (zN (zo c_ (zh zi rfl B.len zM (ac (pv 10) al)) ze (aq _))
      (zd (hV hu (pv 6) (zI eR (pv 10) ze (fun _ _=>rfl)) (zI zC (zQ (ac (pv 7) (ac (pv 8) al))) (zq Gt I rfl mt Ft.kp bt .nil am (ac (pv 0) (ac ze al))) (fun _ _=>rfl)) rfl)) zv)))
    (za (zN (zo c_ (pv 4) ze (aq _))
     (za (zp (i:=6) dy.nd rfl (Or.inl rfl) (zj (tL rfl av) rfl B.dict ig (ac (zw io ["piece"] [none] (zA (pv 2)) (fun l C s₀ H₀ ex=>zk (i:=0) (bR ["piece"]) rfl (Or.inl rfl))
      (fun l C s₀ H₀ ex=>gh (zo c_ (zh zi rfl B.len zM (ac (pv 0) al)) ze (aq _)))
      (fun l C s₀ H₀ ex=>fQ (ac (zI eR (pv 0) ze (fun _ _=>rfl)) (ac (zI eR (pv 0) ze (fun _ _=>rfl)) al))) (hfr:=bN δ) (tc:=kq K) (te:=CP K)) al)))
     (zd (zN (PW.pt (mC (zo c_ (zq Gt I rfl mt Ft.kp bt .nil am (ac (pv 0) (ac ze al))) ze (aq _)) (mv (zo ix (zh zi rfl B.len zM (ac (pv 2) al)) ze (aq _)))))
      (za (zp (i:=10) dy.nd rfl (Or.inl rfl) (zI zC (pv 2) (zq Gt I rfl mt Ft.kp bt .nil am (ac (pv 0) (ac (zh zi rfl B.len zM (ac (pv 2) al)) al))) (fun _ _=>rfl)))
      (zd (hV hu (pv 6) (zI eR (pv 10) ze (fun _ _=>rfl)) (zI eR (pv 10) (qq qz ze) (fun _ _=>rfl)) rfl))) zv))) zv)
    kw),?_⟩
   intro O KN OT M os ks bs pss af c x1 x2 v S G H2 W d hv X hM gF;obtain⟨hw,cn,n8⟩:=lv d;have jI:(canon pss).length<=56:=by rw[zS];exact lC d
   have aF:=W.hk.length;refine⟨_,rfl,KN,rfl,⟨_,SqL.of W.hK⟩,fG (K:=K) (a:=KN) (xs:=ks.map V.ref) (fun i σ U=>∃(G:Option V)(ns:List (Int×Int)),σ=[some (.ref p),some (.ref O),some (.ref KN),some (.ref OT),some (.int c),v,some (.ref M),some (.int x1),some (.int x2),S,G]/\W2 H U p O KN OT os ks bs pss af/\U M=some (zV ns)/\ns.map (·.1)=dots ((canon pss).take i))
    ⟨G,[],rfl,W,hM,rfl⟩ (fun i σ U _ ⟨_,_,_,h,_⟩=>SqL.of h.hK) ?_ ?_⟩
   ·rintro i x σ U hx ⟨G,ns,rfl,W3,jD,fB⟩
    obtain⟨t,et,rfl⟩:=zR hx;obtain⟨ps,aA,aM⟩:=W3.hk.get et;have hi:i<(canon pss).length:=(List.getElem?_eq_some_iff.mp aA).1;refine⟨_,rfl,t,_,rfl,.inr (SqT.of aM),rfl,_,rfl,?_⟩;rw[show(ps.map V.int).length=ps.length from Ab _]
    by_cases h1:ps.length=1
    ·rw[decide_eq_true (by rw[h1];rfl)]
     match ps,h1 with
     |[y],_=>
      refine aX ⟨_,rfl,_,rfl,zf (by simp),fun L hL=>⟨_,rfl,p,2,rfl,(W3.same (Same.new hL)).bx,ξ,ξ,fun r H5 r0 r1 bq bW=>?_⟩⟩;have sL:=Same.new (o:=.lst [.int x1,.int x2]) hL;have WL:=W3.same sL;have hpL:L≠p:=by
       obtain⟨a,b,e,_⟩:=W3.bx;exact(zg e hL).symm
      have W5:=WL.box bq bW;have u0:=bq _ _ hpL ai;have N:=bq _ _ (iW WL.bx (sL _ _ jD)) (sL _ _ jD);have nT:Tp H5 t [y]:=bq.tp WL.bx (sL.tp aM);obtain⟨z,ez⟩:∃z,atI [V.int x1,V.int x2] r=some (.int z):=by
       have:r=0\/r=1:=ω
       rcases this with rfl|rfl
       ·exact⟨x1,zu (j:=0) rfl⟩
       ·exact⟨x2,zu (j:=1) rfl⟩
      have hdk:y∉ns.map (·.1):=by
       rw[fB];have hnn:=CO (pss:=pss);rw[<-List.take_append_drop (i+1) (canon pss),AM aA] at hnn;unfold dots at hnn ⊢;rw[AV,AV,Am,Am,List.nodup_append] at hnn;have:=(List.nodup_append.mp hnn.1).2.2;exact fun z=>this y z y (by simp) rfl
      have hlen:(kZ ns).length<sizeLine:=by
       have e:=congrArg List.length fB;rw[Ab] at e;have:=l5 ((canon pss).take i);rw[AG] at this;rw[kZ,Ab,Ab];exact e_ ω
      refine⟨L,_,_,.int z,rfl,rfl,SqL.of u0,ez,_,rfl,_,rfl,t,_,0,.int y,rfl,rfl,SqT.of nT,zu (j:=0) rfl,M,_,rfl,DPut.k (k:=Sum.inl y) N hlen,⟨_,ns++[(y,z)],rfl,W5.put N gF,?_,?_⟩⟩
      ·rw[ai,Hn hdk]
      ·rw[Am,fB,AM aA,lY];rfl
    ·rw[decide_eq_false (fun z=>h1 (by injection z with z;omega))]
     refine aH ⟨_,ns,rfl,W3,jD,?_⟩;rw[fB,AM aA,lY,if_neg h1,List.append_nil]
   ·rintro σ U ⟨G,ns,rfl,W3,jD,fB⟩
    rw[Ab,aF,take_all] at fB;refine⟨_,rfl,rfl,_,rfl,bc (fun _=>?_) (fun _=>?_)⟩
    ·refine⟨_,rfl,KN,rfl,⟨_,SqL.of W3.hK⟩,fun D hD=>zy (Hs (g:=fun x=>x) (SqL.of W3.hK) W3.hk ω (fun t x H4 Q' ht q=>?_) hD fun H4 ts s4 h4 pz=>⟨D,ts,_,rfl,SqL.of h4,pz,fun M2 lh=>?_⟩)⟩
     ·exact⟨_,rfl,t,_,0,.int x,rfl,rfl,SqT.of ht,zu (j:=0) rfl,_,rfl,t,_,0,.int x,rfl,rfl,SqT.of ht,zu (j:=0) rfl,zf (by simp),q⟩
     have u:(((dots (canon pss)).map fun x=>(x,x)).map (·.1))=dots (canon pss):=by rw[At];exact List.map_id' _
     rw[Hq _ (by rw[u];exact CO)];have pq:H M2=none:=W3.sb.free hb W3.bx (s4.free lh);have s5:=s4.trans (Same.new (o:=zV ((dots (canon pss)).map fun x=>(x,x))) lh);have W5:=W3.same s5;have N:=ai (H:=H4) (a:=M2) (o:=zV ((dots (canon pss)).map fun x=>(x,x)));generalize upd H4 M2 (zV ((dots (canon pss)).map fun x=>(x,x)))=H5 at s5 W5 N;refine⟨_,rfl,p,2,rfl,W5.bx,ξ,ξ,fun r H6 r0 r1 Z bz=>⟨rfl,_,rfl,?_⟩⟩;have W6:=W5.box Z bz;have gM:=Z _ _ (iW W5.bx N) N;refine bc (fun _=>?_) (fun _=>?_)
     ·refine⟨_,rfl,KN,_,rfl,.inl (SqL.of W6.hK),_,_,rfl,rfl,_,rfl,bc (fun hgt=>?_) (fun _=>?_)⟩
      ·have ff:0<ks.length:=by
        have:=of_decide_eq_true hgt;rw[Ab] at this;omega
       refine⟨_,rfl,_,rfl,_,rfl,KN,_,rfl,.inl (SqL.of W6.hK),p,_,rfl,W6.bx,by rw[Ab];omega,by rw[Ab];omega,fun J H7 q0 q1 de gW=>?_⟩;rw[Ab] at q1;have W7:=W6.box de gW;have rA:=de _ _ (iW W6.bx gM) gM;obtain⟨t,et⟩:∃t,ks[J.toNat]?=some t:=⟨ks[J.toNat]'ω,Af _⟩;obtain⟨ps,aA,aM⟩:=W7.hk.get et;have hmem:=Ap aA;obtain⟨h5,hne⟩:=dS hw ps hmem;obtain⟨y,ey⟩:=N0 ps hne;obtain⟨x,rr,rfl⟩:=N1 ps hne;have hin:x∈dots (canon pss):=gS hmem Av;obtain⟨ms,em,iU⟩:=Ho (ns:=(dots (canon pss)).map fun x=>(x,x)) (x:=x) (y:=y) (by rw[u];exact hin);have er:J=((J.toNat:Nat):Int):=ω
       have c5:=l5 (canon pss);refine⟨KN,_,_,.ref t,rfl,rfl,SqL.of W7.hK,by rw[er];exact zu (by rw[Ai,et];rfl),?_⟩;refine⟨_,rfl,_,rfl,t,_,_,.int y,rfl,rfl,SqT.of aM,ey,_,rfl,_,rfl,t,_,0,.int x,rfl,rfl,SqT.of aM,zu (j:=0) rfl,M2,_,rfl,DPut.k (k:=Sum.inl x) rA (by rw[Ab,Ab,Ab];exact e_ ω),?_⟩;refine cq O KN OT M2 os ks bs pss af ms c v _ _ S _ _ (W7.put rA pq) d hv X ?_ (by rw[iU,u]);rw[ai];exact congrArg (fun z=>some (HO.dK z)) em
      ·exact cq O KN OT M2 os ks bs pss af _ c v _ _ S _ _ W6 d hv X gM u
     ·exact aH (cq O KN OT M2 os ks bs pss af _ c v _ _ S _ _ W6 d hv X gM u)
    ·exact cq O KN OT M os ks bs pss af ns c v _ _ S _ _ W3 d hv X jD fB
  obtain⟨xx,kx,dm⟩:=vU;have R8:∃tr,PSs (bh aw P w K mg base io "_law_pair" (zb g0) f cdv A outer s H E).nox (List.drop 8 (zP g0)) tr/\
    ∀(O KN OT M:Addr)(os ks bs:List Addr)(pss af:Ξ)(c x1:Int)(v v8 S G:Option V)(H2:Hp),W2 H H2 p O KN OT os ks bs pss af->Drawn pss->Drawn af->H2 M=some (zV [])->H M=none->
     tr {nx:=fun _ H'=>Q .non H',rt:=Q} [some (.ref p),some (.ref O),some (.ref KN),some (.ref OT),some (.int c),v,some (.ref M),some (.int x1),v8,S,G] H2:=by
   refine⟨_,za (zp (i:=8) dy.nd rfl (Or.inl rfl) (pv 7))
    (za (ux (i:=9) dy.nd rfl (Or.inl rfl) io ["piece"] [none] (zA (zq Gl jo rfl ml Fl.kp bl .nil am (ac (pv 3) al))) (fun l C s₀ H₀ ex=>zk (i:=0) (bR ["piece"]) rfl (Or.inl rfl))
      (fun l C s₀ H₀ ex=>gh (zo c_ (zh zi rfl B.len zM (ac (pv 0) al)) ze (aq _))) (fun l C s₀ H₀ ex=>pv 0) (hfr:=bN δ) (tc:=Hr K))
    (za (zN (PW.pt (mC (zo ix (zh zi rfl B.len zM (ac (pv 9) al)) ze (aq _)) (mv (zo c_ (zq Gt I rfl mt Ft.kp bt .nil am (ac (pv 0) (ac ze al))) ze (aq _)))))
     (zd (qh (zI zC (pv 9) (zq Gt I rfl mt Ft.kp bt .nil am (ac (pv 0) (ac (zh zi rfl B.len zM (ac (pv 9) al)) al))) (fun _ _=>rfl)) (mS rfl (fX (zk (i:=7) dy.nd rfl (Or.inl rfl)) (fX (zk (i:=8) dy.nd rfl (Or.inl rfl)) mQ))))) zv)
    kx)),?_⟩
   intro O KN OT M os ks bs pss af c x1 v v8 S G H2 W d gu hM gF;obtain⟨lq,_,_⟩:=lv gu;obtain⟨cg,_,h5,_⟩:=iO lq;have cE:=lC gu;have X:(canon af).length<=56:=by rw[zS];exact cE
   have hv:b0 af:=⟨lq,ω⟩;refine⟨_,rfl,_,rfl,OT,bs,af,rfl,SqL.of W.hT,W.hb,h5,cg,ω,fun ni U qs t=>?_⟩;obtain⟨bM,s3,_,gI,dR⟩:=lD t;refine⟨ni,rfl,⟨_,SqL.of gI⟩,fun ED yj=>zy (NX (SqL.of gI) dR ω yj fun H4 es s4 h4 fq hes=>?_)⟩;have cy:=s3.trans s4;have W4:=W.same cy;have gE:=cy _ _ hM;refine⟨_,rfl,ED,_,rfl,.inl (SqL.of h4),_,_,rfl,rfl,_,rfl,bc (fun hgt=>?_) (fun _=>?_)⟩
   ·have ff:0<es.length:=by
     have:=of_decide_eq_true hgt;rw[Ab] at this;omega
    refine⟨_,rfl,p,2,rfl,W4.bx,ξ,ξ,fun r H5 r0 r1 bq bW=>⟨rfl,_,rfl,?_⟩⟩;have W5:=W4.box bq bW;have N:=bq _ _ (iW W4.bx gE) gE;have Y:=bq _ _ (W4.bx.ne h4) h4;refine bc (fun _=>?_) (fun _=>?_)
    ·refine⟨_,rfl,_,rfl,_,rfl,ED,_,rfl,.inl (SqL.of Y),p,_,rfl,W5.bx,by rw[Ab];omega,by rw[Ab];omega,fun J H6 q0 q1 Z bz=>?_⟩
     rw[Ab] at q1;have W6:=W5.box Z bz;have gM:=Z _ _ (iW W5.bx N) N;have h6:=Z _ _ (W5.bx.ne Y) Y;obtain⟨e,ee⟩:∃e,es[J.toNat]?=some e:=⟨es[J.toNat]'ω,Af _⟩;obtain⟨x,y,lw⟩:=hes e (Ap ee);have oK:Tp H6 e [x,y]:=Z.tp W5.bx (bq.tp W4.bx lw);have er:J=((J.toNat:Nat):Int):=ω
     refine⟨ED,_,_,.ref e,rfl,rfl,SqL.of h6,by rw[er];exact zu (by rw[Ai,ee];rfl),e,_,rfl,SqT.of oK,rfl,_,_,rfl,_,_,rfl,rfl,?_⟩;exact dm O KN OT M os ks bs pss af c x y v _ G _ W6 d hv X gM gF
    ·exact dm O KN OT M os ks bs pss af c x1 x1 v _ G _ W5 d hv X N gF
   ·exact aH (dm O KN OT M os ks bs pss af c x1 x1 v _ G _ W4 d hv X gE gF)
  obtain⟨yA,oP,gU⟩:=R8;have R5:∃tr,PSs (bh aw P w K mg base io "_law_pair" (zb g0) f cdv A outer s H E).nox (List.drop 5 (zP g0)) tr/\
    ∀(O KN OT:Addr)(os ks bs:List Addr)(pss af:Ξ)(c:Int)(H2:Hp),W2 H H2 p O KN OT os ks bs pss af->Drawn pss->Drawn af->
     tr {nx:=fun _ H'=>Q .non H',rt:=Q} [some (.ref p),some (.ref O),some (.ref KN),some (.ref OT),some (.int c),none,none,none,none,none,none] H2:=by
   refine⟨_,za (ux (i:=5) dy.nd rfl (Or.inl rfl) io ["piece"] [none] (zA (zq Gl jo rfl ml Fl.kp bl .nil am (ac (pv 3) al))) (fun l C s₀ H₀ ex=>zk (i:=0) (bR ["piece"]) rfl (Or.inl rfl))
      (fun l C s₀ H₀ ex=>gh (zo c_ (zh zi rfl B.len zM (ac (pv 0) al)) ze (aq _))) (fun l C s₀ H₀ ex=>zI eR (pv 0) ze (fun _ _=>rfl)) (hfr:=bN δ) (tc:=kq K) (te:=t2 K))
    (za (zp (i:=6) dy.nd rfl (Or.inl rfl) DR)
    (za (zp (i:=7) dy.nd rfl (Or.inl rfl) (vx (zo ix (zh zi rfl B.len zM (ac (pv 5) al)) ze (aq _)) (zI zC (pv 5) (zq Gt I rfl mt Ft.kp bt .nil am (ac (pv 0) (ac (zh zi rfl B.len zM (ac (pv 5) al)) al))) (fun _ _=>rfl)) ze))
    oP)),?_⟩
   intro O KN OT os ks bs pss af c H2 W d gu;obtain⟨lq,_,_⟩:=lv gu;obtain⟨cg,_,h5,_⟩:=iO lq;have cE:=lC gu;have X:(canon af).length<=56:=by rw[zS];exact cE
   refine⟨_,rfl,OT,bs,af,rfl,SqL.of W.hT,W.hb,h5,cg,ω,fun ni U qs t=>?_⟩;obtain⟨bM,s3,_,gI,dR⟩:=lD t;refine⟨ni,rfl,⟨_,SqL.of gI⟩,fun DD pZ=>zy (CG (SqL.of gI) dR ω pZ fun H4 s4 h4=>fun M hM=>?_)⟩;have cy:=s3.trans s4;have sM:=Same.new (o:=.dK []) hM;have W5:=(W.same cy).same sM;have gF:H M=none:=(W.same cy).sb.free hb (W.same cy).bx hM;have cH:=sM _ _ h4;have N:=ai (H:=H4) (a:=M) (o:=.dK []);have c5:=l5 (canon af);refine⟨_,rfl,DD,_,rfl,.inl (SqL.of cH),_,_,rfl,rfl,_,rfl,bc (fun hgt=>?_) (fun _=>?_)⟩
   ·have ff:0<(dots (canon af)).length:=by
     have:=of_decide_eq_true hgt;rw[Ab] at this;omega
    refine⟨_,rfl,_,rfl,_,rfl,DD,_,rfl,.inl (SqL.of cH),p,_,rfl,W5.bx,by rw[Ab];omega,by rw[Ab];omega,fun J H6 q0 q1 Z bz=>?_⟩;rw[Ab] at q1;have W6:=W5.box Z bz;have gM:=Z _ _ (iW W5.bx N) N;have hDp:DD≠p:=by
     obtain⟨x,y,e,_⟩:=(W.same s3).bx;exact(zg e pZ).symm
    have gH:=Z _ _ hDp cH;obtain⟨x,ex⟩:∃x,(dots (canon af))[J.toNat]?=some x:=⟨(dots (canon af))[J.toNat]'ω,Af _⟩;have er:J=((J.toNat:Nat):Int):=ω
    exact⟨DD,_,_,.int x,rfl,rfl,SqL.of gH,by rw[er];exact zu (by rw[Ai,ex];rfl),gU O KN OT M os ks bs pss af c x _ none none none _ W6 d gu gM gF⟩
   ·exact gU O KN OT M os ks bs pss af c 0 _ none none none _ W5 d gu N gF
  obtain⟨BM,oD,gJ⟩:=R5;refine⟨_,za (zp (i:=1) dy.nd rfl (Or.inl rfl) (zq Gw hr rfl mw Fw.kp bw .nil am (ac (pv 0) al)))
   (za (zp (i:=2) dy.nd rfl (Or.inl rfl) (zq Gl jo rfl ml Fl.kp bl .nil am (ac (pv 1) al)))
   (za (zp (i:=3) dy.nd rfl (Or.inl rfl) (zq Gw hr rfl mw Fw.kp bw .nil am (ac (pv 0) al)))
   (za (zp (i:=4) dy.nd rfl (Or.inl rfl) (zq Gt I rfl mt Ft.kp bt .nil am (ac (pv 0) (ac ze al))))
   (za (zN (zo c_ (pv 4) ze (aq _)) (zd (zp (i:=3) dy.nd rfl (Or.inl rfl) (zj nr rfl B.list eY (ac (pv 1) al)))) zv)
   oD)))),?_⟩
  refine⟨_,rfl,p,rfl,hb,fun O os pss H1 eD hb1 BD h_ rf d=>?_⟩;obtain⟨hw,cn,n8⟩:=lv d;obtain⟨cg,_,h5,_⟩:=iO hw;have cE:=lC d;refine⟨_,rfl,O,os,pss,rfl,SqL.of h_,rf,h5,cg,ω,fun KN H2 qs t=>?_⟩;obtain⟨ks,s2,_,fb,bH⟩:=lD t;have aU:=hb1.same s2;refine⟨_,rfl,p,rfl,aU,fun OT bs af U bu aD i9 gg u8 gu=>?_⟩;have W3:W2 H U p O KN OT os ks bs pss af:=⟨(eD.trans (zx.of s2)).trans bu,aD,bu _ _ (aU.ne (s2 _ _ h_)) (s2 _ _ h_),bu.tps aU (s2.tps rf),bu _ _ (aU.ne fb) fb,bu.tps aU bH,gg,u8⟩;refine⟨_,rfl,p,4,rfl,aD,ξ,ξ,fun c H4 w0 w1 aQ bG=>?_⟩;have W4:=W3.box aQ bG;refine⟨_,rfl,rfl,_,rfl,bc (fun _=>?_) (fun _=>?_)⟩
  ·refine⟨_,rfl,O,_,rfl,.inl (SqL.of W4.hO),fun L hL=>?_⟩
   have sL:=Same.new (o:=.lst (os.map V.ref)) hL;have W5:=W4.same sL;exact gJ O KN L os ks os pss pss c _ ⟨W5.sb,W5.bx,W5.hO,W5.ho,W5.hK,W5.hk,ai,W5.ho⟩ d d
  ·exact gJ O KN OT os ks bs pss af c _ W4 d gu
end
end K56
end
section
namespace L2
open PySem PySem.Spec PyProof.Rows
def N3(f:Array Value->Array Value)(o:Obj):(o.mapFields f).dict=o.dict:=by unfold Obj.mapFields;split<;>rfl
def Xc(h:Heap)(x:Addr)(C:Value)(T:Option Addr):Prop:=
 ∃b vs,h.get? x=some b/\b.cls=C/\b.dict=none/\b.data=.fields vs/\1<vs.size/\((T=none/\vs[1]?=some .none)\/∃a c ts,T=some a/\vs[1]?=some (.ref a)/\a≠x/\h.get? a=some c/\c.data=.fields ts/\ts[3]?=some .none)
def l8(fr:List Addr)(x:Addr)(T:Option Addr)(h h':Heap):Prop:=
 (∀b o,h.get? b=some o->b≠x->T≠some b->b∉fr->h'.get? b=some o)/\(∀b o,h.get? b=some o->b∈fr->∃a,h'.get? b=some {o with slots:=a})/\h.objs.size<=h'.objs.size
section
variable{M:Model}{A:Around}{E:Ω}{s:Shared}
def uL{base:Heap}{env:Env}{outer:List Env}{L x:Addr}{j:Obj}{vs:Array Value}{head:Value}{N:Bool}{Q:Unit->Shared->Prop}(hfr:A.frames=some (env::outer))(F:s.heap.FunFrames base (env::outer))(hf:env.frame=some L)(he:s.heap.get? x=some j)(O:j.dict=none)(hd:j.data=.fields vs)(hsz:1<vs.size)(h:∀h' T',s⁻¹<=T'->Xc h' x j.cls (some T')->l8 ((env::outer).filterMap (·.frame)) x none s.heap h'->Q () {s with heap:=h'}):wpAny M A (do let a <-frameOf env;let d <-entryPlaceOf L N;let b <-EntryCells.newEntry head a .none (rawInt L) .none d;setField (.ref x) 1 b) (fun _ s'=>wpAny M A (setFlight (.ref x) none) Q E s') E s:=by
 have g:x∉(env::outer).filterMap (·.frame):=fun hm=>by
  obtain⟨_,o,p,H⟩:=F.mem hm;rw[he] at p;injection p with p;subst p;exact H vs hd
 refine Aa (wpAny_frameOf_fun hfr F hf fun c l=>?_);refine Aa (wpAny_entryPlaceOf fun d i=>?_);unfold EntryCells.newEntry newFields;refine Aa (AF ?_ (i.sizeOk5 _ _ _ _ _));have y:c.get? x=some j:=(l.2.1 x g).trans he;have z:=Ad (h:=c) {cls:=.type "traceback",dict:=none,data:=.fields ([head,.ref L,.none,rawInt L,.none]++(if d.isEmpty then List.replicate 6 Value.none else d)).toArray} y;refine Bk z hd hsz ?_;have u:c.objs.size≠x:=Nat.ne_of_gt (Ak y);have v:=A1 hd (·.setIfInBounds 1 (Value.ref c.objs.size));have C:=A5 (Obj.mapFields (·.setIfInBounds 1 (Value.ref c.objs.size))) z (Obj.isFreed_of_fields v);have D:=(Heap.get?_update_other (c.push {cls:=.type "traceback",dict:=none,data:=.fields ([head,.ref L,.none,rawInt L,.none]++(if d.isEmpty then List.replicate 6 Value.none else d)).toArray})
  (Obj.mapFields (·.setIfInBounds 1 (Value.ref c.objs.size))) (Ne.symm u)).trans (Al c rfl)
 unfold setFlight;refine Aa (AT C v (x:=.ref c.objs.size) (by simp[hsz]) ?_);rw[if_pos (show(Value.ref c.objs.size != Value.none)=true from by simp)];have P:c.objs.size=s⁻¹:=l.1;refine Bk D rfl (by simp only[Aj,As,Au,List.length_nil]<;>omega) (h _ c.objs.size ω ?_ ?_)
 ·refine⟨_,_,?_,Obj.cls_mapFields _ _,(N3 _ _).trans O,v,by simpa using hsz,.inr ⟨c.objs.size,_,_,rfl,by simp[hsz],u,A5 _ D (Obj.isFreed_of_fields (A1 rfl _)),A1 rfl _,?_⟩⟩
  ·rw[Heap.get?_update_other _ _ u];exact C
  ·first|(simp;done)|(rcases i with rfl|⟨_,_,_,_,_,_,_,rfl⟩<;>simp)
 ·have keep:∀b o,b≠x->c.get? b=some o->
    (((c.push {cls:=.type "traceback",dict:=none,data:=.fields ([head,.ref L,.none,rawInt L,.none]++(if d.isEmpty then List.replicate 6 Value.none else d)).toArray}).update x (Obj.mapFields (·.setIfInBounds 1 (Value.ref c.objs.size)))).update c.objs.size
     (Obj.mapFields (·.setIfInBounds 3 ((none:Option Addr).elim Value.none fun f=>rawInt f)))).get? b=some o:=fun b o q hb=>by
   have w:c.objs.size≠b:=Nat.ne_of_gt (Ak hb);rw[Heap.get?_update_other _ _ w,Heap.get?_update_other _ _ (Ne.symm q)];exact Ad _ hb
  refine⟨fun b o hb G _ r=>keep b o G ((l.2.1 b r).trans hb),fun b o hb r=>?_,?_⟩
  ·obtain⟨I,J⟩:=l.2.2 b o hb
   exact⟨I,keep b _ (fun e=>g (e▸r)) J⟩
  ·rw[Bb,Bb,Heap.size_push]
   show s⁻¹<=c.objs.size+1;omega
def N4{base:Heap}{env:Env}{outer:List Env}{L x:Addr}{C:Value}{T:Option Addr}{Q:Unit->Shared->Prop}(hfr:A.frames=some (env::outer))(l:s.heap.FunFrames base (env::outer))(hf:env.frame=some L)(he:Xc s.heap x C T)(h:∀h' T',s⁻¹<=T'->Xc h' x C (some T')->l8 ((env::outer).filterMap (·.frame)) x T s.heap h'->Q () {s with heap:=h'}):wpAny M A (leaving env (.ref x)) Q E s:=by
 obtain⟨z,vs,he,rfl,r,hd,hsz,h1⟩:=he;unfold leaving noteFrame;simp only[hf];rcases h1 with ⟨rfl,h1⟩|⟨a,D,ts,rfl,h1,y,hT,j,u⟩
 ·refine Aa (Aa (AT he hd h1 ?_))
  rw[if_neg ξ];exact uL hfr l hf he r hd hsz h
 ·refine Aa (Aa (AT he hd h1 ?_))
  rw[if_pos (show(Value.ref a != Value.none)=true from by simp)];refine Aa (AT hT j u ?_);rw[if_neg (show ¬((Value.none==rawInt L)=true) from by simp[rawInt])];refine Aa (Bk hT j (Array.getElem?_eq_some_iff.mp u).1 ?_);have g:∀b,b≠a->(s.heap.update a (Obj.mapFields (·.setIfInBounds 3 Value.none))).get? b=s.heap.get? b:=fun b hb=>Heap.get?_update_other _ _ (Ne.symm hb);have v:∀b o,s.heap.get? b=some o->(∀vs,o.data≠.fields vs)->b≠a:=fun b o hb c q=>by
   rw[q,hT] at hb;injection hb with hb;subst hb;exact c ts j
  refine uL hfr (l.of_keeps fun b o hb c=>⟨o,(g b (v b o hb c)).trans hb,rfl⟩) hf ((g x (Ne.symm y)).trans he) r hd hsz fun h' T' p hx hk=>h h' T' (by rw[Bb] at p;exact p) hx ?_;obtain⟨k1,k2,k3⟩:=hk;refine⟨fun b o hb w i f=>k1 b o ((g b fun e=>i (by rw[e])).trans hb) w (by simp) f,fun b o hb f=>?_,by rw[Bb] at k3;exact k3⟩;obtain⟨_,o',d,c⟩:=l.mem f;rw[hb] at d;cases d;exact k2 b o ((g b (v b o hb c)).trans hb) f
end
def dU(P:Program)(w:World):eu:=fun outer H s E e s'=>∃(x C:Addr)(T:Option Addr)(H':Hp),e=.ref x/\s'.os=s.os/\AllBare s'.gens/\Un (frs outer) [] H H' s.heap s'.heap/\HOk P w H' s'.heap/\
 H' x=none/\s.heap.get? x=none/\(∀a,T=some a->H' a=none/\s.heap.get? a=none)/\Xc s'.heap x (.ref C) T/\E e (some C) H'
def Hu{P:Program}{w:World}{H:Hp}{h h':Heap}{fr:List Addr}{x:Addr}{T:Option Addr}(f:HOk P w H h)(k:l8 fr x T h h')(hx:H x=none)(hT:∀a,T=some a->H a=none)(hf:∀b∈fr,H b=none):HOk P w H h':=by
 intro b u e;refine(f b u e).stay (fun c v hc q=>k.1 c v q ?_ ?_ ?_) (fun _ q=>q) fun _ _ q=>q
 all_goals
  have d:H c≠none:=by
   rcases hc with z|z
   ·rw[z,e];simp
   ·rw[z];simp
 ·exact fun z=>d (z▸hx)
 ·exact fun z=>d (hT c z)
 ·exact fun z=>d (hf c z)
def CS{P:Program}{w:World}{K:Ae}{mg:Str->Option Value}{base:Heap}{N:List Str}{g:Str}{scope:Scope}{f:Addr}{h:Value}{A:Around}{outer:List Env}{s:Shared}{H:Hp}{E:XK}{aa:Ψ}{σ:St}{H':Hp}{s':Shared}{x C:Addr}{T:Option Addr}(I:Inv (bh (dU P w) P w K mg base N g scope f h A outer s H E) aa σ H' s')(hx:Xc s'.heap x (.ref C) T)(p:H' x=none)(r:s.heap.get? x=none)(hT:∀a,T=some a->H' a=none/\s.heap.get? a=none)(F:E (.ref x) (some C) H'):(bh (dU P w) P w K mg base N g scope f h A outer s H E).xe (.ref x) s':=by
 show wpAny (model P w) (A.deeper (envOfC g scope s⁻¹ f h)) (leaving (envOfC g scope s⁻¹ f h) (.ref x)) _ _ s';refine N4 I.ok.frames I.stack rfl hx fun h' T' l hx' hk=>?_;have hfr:=I.stkFree;have hsz:s⁻¹<=s'⁻¹:=I.sz;have D:∀b o,s.heap.get? b=some o->b≠x/\T≠some b/\b≠s⁻¹:=fun b o e=>by
  have hb:=Ak e;exact⟨fun z=>(by rw[z,r] at e;cases e),fun z=>(by rw[(hT b z).2] at e;cases e),Ao hb⟩
 have up:∀b o o',s.heap.get? b=some o->s'.heap.get? b=some o'->b∉frs outer->h'.get? b=some o':=fun b o o' e c hb=>by
  obtain⟨n1,n2,u⟩:=D b o e;refine hk.1 b o' c n1 n2 fun hm=>?_;have v:b∈s⁻¹::frs outer:=hm;rcases List.mem_cons.mp v with z|z
  ·exact u z
  ·exact hb z
 have d:∀b o',s'.heap.get? b=some o'->b∈frs outer->∃j,h'.get? b=some {o' with slots:=j}:=fun b o' c hb=>hk.2.1 b o' c (show b∈s⁻¹::frs outer from Ay _ hb);have i:∀b:Addr,b∉(bh (dU P w) P w K mg base N g scope f h A outer s H E).ex:=fun b z=>absurd (show b∈([]:List Addr) from z) (by simp);refine⟨x,C,some T',H',rfl,I.os,I.bare,⟨fun b o q n hb hx=>?_,fun b o q n hb hx=>?_,fun b o q n hx=>I.base.free b o q n (i b),fun b o q hx=>?_,I.base.tups,I.base.frzs,I.base.tbls⟩,Hu I.hok hk p (fun a e=>(hT a e).1) hfr,p,r,fun a e=>?_,hx',F⟩
 ·exact up b o o q (I.base.keep b o q n hb (i b)) hb
 ·obtain⟨j,e⟩:=I.base.slot b o q n hb (i b)
  obtain⟨y,c⟩:=d b _ e hb;exact⟨y,c⟩
 ·obtain⟨o',e⟩:=I.base.there b o q (i b)
  by_cases hb:b∈frs outer
  ·obtain⟨j,c⟩:=d b o' e hb
   exact⟨_,c⟩
  ·exact⟨o',up b o o' q e hb⟩
 ·cases e
  refine⟨I.hok.fresh l,?_⟩;cases q:s.heap.get? T' with
  |none=>rfl
  |some o=>exact absurd (Ak q) (Nat.not_lt.mpr (AO hsz l))
def g_{P:Program}{w:World}{K:Ae}{mg:Str->Option Value}{base:Heap}{N:List Str}{g:Str}{scope:Scope}{f:Addr}{h:Value}{A:Around}{outer:List Env}{s:Shared}{H:Hp}{E:XK}:cF (dU P w) (bh (dU P w) P w K mg base N g scope f h A outer s H E) E:=by
 rintro aa σ H1 i e j I ⟨x,C,T,H',rfl,os,c,un,d,l,p,hT,hx,r⟩;have u:Inv (bh (dU P w) P w K mg base N g scope f h A outer s H E) aa σ H' j:=I.call' (ch:=[]) os un d c (fun b z=>absurd z (by simp));have back:∀b,i.heap.get? b=none->s.heap.get? b=none:=fun b hb=>by
  cases q:s.heap.get? b with
  |none=>rfl
  |some o=>
   obtain⟨o',e⟩:=I.base.there b o q (fun z=>absurd (show b∈([]:List Addr) from z) (by simp));rw[hb] at e;cases e
 exact CS u hx l (back x p) (fun a e=>⟨(hT a e).1,back a (hT a e).2⟩) r
def Fun.ok1{P:Program}{w:World}{K:Ae}{mg:Str->Option Value}{base:Heap}{x a:Str}{st:Stmt}{f:Addr}{fd:FuncData}{N ps:List Str}{k:Nat}{sp:Sp}(F:Fun K x a st f fd)(S:zn N ps (zb st))(len:∀vs H Q E,sp vs H Q E->vs.length=ps.length)(d:∀(cdv:Value)(A:Around)(outer:List Env)(s:Shared)(H:Hp)(vs:List V)(Q:VK)(E:XK),Room k (A.deeper (envOfC a (zb st) s⁻¹ f cdv))->sp vs H Q E->
   ∃t,PSs (bh (dU P w) P w K mg base N a (zb st) f cdv A outer s H E) (zP st) t/\t {nx:=fun _ H'=>Q .non H',rt:=Q} (start N vs) H):FnOk P w K mg base (dU P w) (k+1) f fd ps sp:=by
 obtain⟨e,g,kV,h,i,j,cdv,ct,l,rfl,lk,c⟩:=F.ex;exact Dv lk c S len fun A outer s H vs Q E hr b=>d cdv A outer s H vs Q E hr b
def N5{P:Program}{w:World}{H:Hp}{h:Heap}{a:Addr}{o:HO}(x:zB P w H h a o):∃ob,h.get? a=some ob:=by
 cases o with
 |lst xs=>obtain⟨_,_,_,_,e⟩:=x;exact⟨_,e⟩
 |tup xs=>obtain⟨_,_,_,o,e,_⟩:=x;exact⟨_,e⟩
 |dK kvs=>obtain⟨_,_,_,_,o,_,_,e,_⟩:=x;exact⟨_,e⟩
 |dT kvs=>obtain⟨_,_,_,_,o,_,_,e,_⟩:=x;exact⟨_,e⟩
 |set S n=>obtain⟨o,_,_,_,e,_⟩:=x;exact⟨_,e⟩
 |ins C dx fs=>obtain⟨_,_,_,e,_⟩:=x;exact⟨_,e⟩
 |own y=>exact x
 |xd fs=>obtain⟨_,⟨_,_,_,e,_⟩,_⟩:=x;exact⟨_,e⟩
 |met f y=>exact⟨_,x⟩
 |rng lo hi=>obtain⟨_,_,_,e⟩:=x;exact⟨_,e⟩
 |frz ob u=>exact⟨_,x.1⟩
 |tbl ps=>exact⟨_,x⟩
 |ext φ=>exact x.2.1
def CT{K:Ae}{h:Heap}{C:Addr}{c:List Value}{p:String}(X:K.In h)(q:PySem.W.excIn K C c p=true):∃bm N nm b bs hdct sn sub ab col dd k0 k1 k2 k3 k5,∃f:Str->Option Value,f "__init__"=none/\(∀T,c.contains (.type T)=true->bm.contains (.type T)=true)/\∀h':Heap,K.In h'->h'.get? C=some (excClassObj nm b C N bs bm hdct sn sub ab col dd k0 k1 k2 k3 k5 p)/\h'.Ns N f/\OwnTail h' c bm:=by
 unfold PySem.W.excIn at q;split at q
 ·rename_i dd cd sl ho
  split at q
  ·rename_i C' bm k0 k1 k2 k3 n k5 hm hs
   simp only[AN,beq_iff_eq,Bool.not_eq_true'] at q;obtain⟨⟨⟨⟨⟨rfl,rfl⟩,g⟩,i⟩,a⟩,j⟩:=q;obtain⟨nm,bs,mro,ns,b,hd,sn,sub,ab,col,u⟩:=cd;dsimp only at hm g a j;subst hm g;have r:sl=#[k0,k1,k2,k3,some (.builtin n),k5]:=by
    obtain⟨l⟩:=sl;simp only at hs;rw[hs]
   subst r;refine⟨bm,ns,nm,b,bs,hd,sn,sub,ab,col,dd,k0,k1,k2,k3,k5,h.nsMap ns,PySem.W.nsMap_none_of_in X a j,fun T hT=>(PySem.W.tail_of_in X i).hasType hT,fun h' d=>⟨d _ _ ho,?_,PySem.W.tail_of_in d i⟩⟩;have s:h.Ns ns (h.nsMap ns):=.of_isNs (PySem.W.isNs_of_in X a);unfold PySem.W.nsOkIn at a;split at a
   ·rename_i c1 d1 bf df sl1 eC
    exact s.at' fun o e=>by
     rw[X _ _ eC] at e;rw[<-e];exact d _ _ eC
   ·cases a
  ·cases q
 ·cases q
abbrev kt:List Value:=[.type "ValueError",.type "Exception",.type "BaseException",.type "object"]
section
variable{X:Cx}
def N6(EX:XK)(C:Addr):TS:=fun _ _ H=>∀x,H x=none->EX (.ref x) (some C) H
def Hv{x:Str}{C:Addr}{b:Str}{j:Nat}{O d ay pos:Pos}{EX:XK}(hc:X.calm=true)(P:Gl X x)(hm:X.mg x=some (.ref C))(q:PySem.W.excIn X.K C kt "ValueError.__new__"=true)(Q:∀(aa:Ψ)(σ:St)(H:Hp)(s:Shared)(x:Addr),Inv X aa σ H s->Xc s.heap x (.ref C) none->H x=none->X.s₀.heap.get? x=none->EX (.ref x) (some C) H->X.xe (.ref x) s)(hex:X.ex=[]:=by rfl)(hd:(x==("__debug__":Str))=false:=by decide)(S:(backTo ay (starEach [Expr.Constant (.str b) j d] X.env)).any (·.1)=false:=by rfl):PS X (.Raise (some (.Call (.Name x O) [.Constant (.str b) j d] [] ay)) none pos) (N6 EX C):=by
 intro aa s σ H D I h;obtain⟨bm,N,nm,r,bs,hdct,sn,sub,ab,col,dd,k0,k1,k2,k3,k5,Y,w,y,A⟩:=CT I.kIn q;refine wpAny_Raise_call_subU (C:=C) (nm:=nm) (q:=r) (N:=N) (bs:=bs) (bm:=bm) (hdct:=hdct) (sn:=sn) (sub:=sub) (ab:=ab) (col:=col) (dd:=dd) (k0:=k0) (k1:=k1) (k2:=k2) (k3:=k3) (k5:=k5) PySem.F.excBase_ValueError PySem.F.excBase_ValueError.hasB PySem.F.excBase_ValueError (y _ PySem.F.excBase_ValueError.hasBase) (I.ok.hd hc) S w ?_;refine aL (kF (v:=.ref C) P hm rfl hd aa s σ H (fun v H1=>v=.ref C/\H1=H) I ⟨rfl,rfl⟩) fun f g ⟨v,H1,T,i,e1,e2⟩=>?_;subst e1 e2;cases i;refine⟨rfl,?_⟩;have M:=(ac pe_str al:PA X [Expr.Constant (.str b) j d] _) ay aa g σ H1 (fun vs H2=>vs=[.str b]/\H2=H1) T ⟨rfl,rfl⟩;refine Calls.evalArgs_plain (aL M fun us c ⟨vs,H2,I2,l,e3,p⟩=>?_);subst e3 p;obtain⟨E,G,J⟩:=A c.heap I2.kIn;refine⟨rfl,?_,E,G,J,fun h' e hm=>?_⟩
 ·rw[<-l.length];show 1<=sizeLine;decide
 obtain⟨t,L,_,_⟩:=hm.there;have U:Inv X aa σ H2 {c with heap:=h'}:=I2.kept (t':=c.toks) hm.keeps;have he:H2 e=none:=by
  cases z:H2 e with
  |none=>rfl
  |some u=>
   obtain⟨o,a⟩:=N5 (I2.hok e u z);rw[hm.new] at a;cases a
 refine Q aa σ H2 _ e U ⟨_,_,L,rfl,rfl,rfl,(by show 1<6;decide),.inl ⟨rfl,rfl⟩⟩ he ?_ (h e he);cases z:X.s₀.heap.get? e with
 |none=>rfl
 |some o=>
  obtain⟨o',a⟩:=I2.base.there e o z (by rw[hex];simp);rw[hm.new] at a;cases a
end
section
variable{M:Model}{A:Around}{E:Ω}{s:Shared}
def N7{base:Heap}{env:Env}{outer:List Env}{L x:Addr}{C:Value}{T:Option Addr}{Q:Unit->Shared->Prop}(hfr:A.frames=some (env::outer))(l:s.heap.FunFrames base (env::outer))(hf:env.frame=some L)(he:Xc s.heap x C T)(h:∀h' T',s⁻¹<=T'->Xc h' x C (some T')->l8 ((env::outer).filterMap (·.frame)) x T s.heap h'->Q () {s with heap:=h'}):wpAny M A (noteFrame (.ref x) env) (fun _ w=>wpAny M A (setFlight (.ref x) none) Q E w) E s:=by
 obtain⟨D,vs,he,rfl,r,hd,hsz,h1⟩:=he;unfold noteFrame;simp only[hf];rcases h1 with ⟨rfl,h1⟩|⟨a,F,ts,rfl,h1,z,hT,j,u⟩
 ·refine Aa (AT he hd h1 ?_)
  rw[if_neg ξ];exact uL hfr l hf he r hd hsz h
 ·refine Aa (AT he hd h1 ?_)
  rw[if_pos (show(Value.ref a != Value.none)=true from by simp)];refine Aa (AT hT j u ?_);rw[if_neg (show ¬((Value.none==rawInt L)=true) from by simp[rawInt])];refine Aa (Bk hT j (Array.getElem?_eq_some_iff.mp u).1 ?_);have g:∀b,b≠a->(s.heap.update a (Obj.mapFields (·.setIfInBounds 3 Value.none))).get? b=s.heap.get? b:=fun b hb=>Heap.get?_update_other _ _ (Ne.symm hb);have v:∀b o,s.heap.get? b=some o->(∀vs,o.data≠.fields vs)->b≠a:=fun b o hb c q=>by
   rw[q,hT] at hb;injection hb with hb;subst hb;exact c ts j
  refine uL hfr (l.of_keeps fun b o hb c=>⟨o,(g b (v b o hb c)).trans hb,rfl⟩) hf ((g x (Ne.symm z)).trans he) r hd hsz fun h' T' p hx hk=>h h' T' (by rw[Bb] at p;exact p) hx ?_;obtain⟨k1,k2,k3⟩:=hk;refine⟨fun b o hb y i f=>k1 b o ((g b fun e=>i (by rw[e])).trans hb) y (by simp) f,fun b o hb f=>?_,by rw[Bb] at k3;exact k3⟩;obtain⟨_,o',d,c⟩:=l.mem f;rw[hb] at d;cases d;exact k2 b o ((g b (v b o hb c)).trans hb) f
def N8{x:Addr}{C:Value}{T:Addr}{Q:Unit->Shared->Prop}(he:Xc s.heap x C (some T))(h:∀h',Xc h' x C (some T)->l8 [] x (some T) s.heap h'->Q () {s with heap:=h'}):wpAny M A (setFlight (.ref x) none) Q E s:=by
 obtain⟨i,vs,he,rfl,j,hd,hsz,h1⟩:=he;rcases h1 with ⟨z,_⟩|⟨a,q,ts,z,h1,g,hT,f,l⟩
 ·cases z
 cases z;unfold setFlight;refine Aa (AT he hd h1 ?_);rw[if_pos (show(Value.ref T != Value.none)=true from by simp)];have c:=(Array.getElem?_eq_some_iff.mp l).1;refine Bk hT f c (h _ ?_ ?_)
 ·refine⟨i,vs,?_,rfl,j,hd,hsz,.inr ⟨T,_,_,rfl,h1,g,A5 _ hT (Obj.isFreed_of_fields (A1 f _)),A1 f _,?_⟩⟩
  ·rw[Heap.get?_update_other _ _ g];exact he
  ·simp[c]
 ·refine⟨fun b o hb p d _=>?_,fun b o _ z=>absurd z (by simp),by rw[Bb];exact Ag _⟩
  rw[Heap.get?_update_other _ _ (fun e=>d (by rw[e]))];exact hb
def N9{C S:Addr}{nm q N bs bm hdct sn sub ab col dd k0 k1 k2 k3 k5 bJ}{i8 q' N' jb gl b_ i_ eB jd dW cK i4 ji jh jm i7 cr}{h:Heap}{g:Array GenState}{d:Drawn}{t:Nat}{os:OsState}{e:Addr}{b:Obj}{Q:Bool->Shared->Prop}(i:h.get? C=some (excClassObj nm q C N bs bm hdct sn sub ab col dd k0 k1 k2 k3 k5 bJ))(c:h.get? S=some (excClassObj i8 q' S N' jb gl b_ i_ eB jd dW cK i4 ji jh jm i7 cr))(he:h.get? e=some b)(j:b.cls=.ref C)(l:gl.contains (.type "BaseException")=true)(o:(Value.ref C::bm).contains (.ref S)=true)(hq:Q true ⟨h,g,d,t,os⟩):wpAny M A (excMatches (.ref e) (.ref S)) Q E ⟨h,g,d,t,os⟩:=by
 have a:(Value.ref S::gl).contains (.type "BaseException")=true:=by rw[List.contains_cons,l,Bool.or_true]
 have f:=tc_notTuple;unfold excMatches
 repeat(first|(with_reducible refine wpAny_loadPart_at he ?_;rw[j])|with_reducible refine wpAny_loadPart_at c ?_|(with_reducible refine wpAny_isSubtype_exc c ?_;rw[a])|(with_reducible refine wpAny_isSubtype_exc i ?_;rw[o])|wp_step)
 exact hq
end
section
variable{X:Cx}{aa:Ψ}{σ:List (Option V)}{H H':Hp}{s:Shared}{h':Heap}
structure Off(X:Cx)(aa:Ψ)(x:Addr):Prop where
 s0:X.s₀.heap.get? x=none
 lo:x≠X.env.locals
 ce:∀y c,X.env.cells.lookup y=some c->c≠x
 pn:∀p∈X.pn++aa,p.1≠x
def Inv.off(I:Inv X aa σ H s)(hex:X.ex=[]){x:Addr}(h:s.heap.get? x=none):Off X aa x:=by
 refine⟨?_,fun e=>?_,fun y c e z=>?_,fun p hp z=>?_⟩
 ·cases q:X.s₀.heap.get? x with
  |none=>rfl
  |some o=>
   obtain⟨o',e⟩:=I.base.there x o q (by rw[hex];simp);rw[h] at e;cases e
 ·obtain⟨m,⟨o,_,_,a,_⟩,_⟩:=I.loc
  rw[<-e,h] at a;cases a
 ·obtain⟨v,o,a,_⟩:=I.cell y c e
  rw[z,h] at a;cases a
 ·have:=(I.pin p hp).1
  rw[z,h] at this;cases this
def Inv.stepN{ch:List Addr}(I:Inv X aa σ H s)(j:∀b∈ch,Off X aa b)(keep:∀b o,b≠X.env.locals->b∉X.fs->b∉ch->s.heap.get? b=some o->H b=none->h'.get? b=some o)(slot:∀b o,b≠X.env.locals->b∈X.fs->b∉ch->s.heap.get? b=some o->H b=none->∃A,h'.get? b=some {o with slots:=A})(free:∀b o,b∉ch->s.heap.get? b=some o->H b=none->H' b=none)(there:∀b o,b∉ch->s.heap.get? b=some o->∃o',h'.get? b=some o')(tups:∀b xs,H b=some (.tup xs)->H' b=some (.tup xs))(frzs:∀b o u,H b=some (.frz o u)->H' b=some (.frz o u))(tbls:∀b ps,H b=some (.tbl ps)->∃more,H' b=some (.tbl (ps++more)))(ns:∀m,s.heap.Ns X.env.locals m->h'.Ns X.env.locals m)(C:HOk X.prog X.w H' h'):Inv X aa σ H' {s with heap:=h'}:=by
 have h:∀b o,X.s₀.heap.get? b=some o->b≠X.env.locals:=fun b o e=>Ao (AB (Ak e) I.ok.above);have y:∀b o,X.s₀.heap.get? b=some o->b∉ch:=fun b o e hb=>by
  rw[(j b hb).s0] at e;cases e
 have a:∀x c,X.env.cells.lookup x=some c->∀v,s.heap.IsCell c v->h'.IsCell c v:=fun x c e v ⟨o,g,hd⟩=>by
  have f:c∉ch:=fun z=>(j c z).ce x c e rfl
  by_cases hc:c∈X.fs
  ·obtain⟨A,q⟩:=slot c o (I.cne x c e) hc f g (I.freeC x c e)
   exact⟨_,q,hd⟩
  ·exact⟨o,keep c o (I.cne x c e) hc f g (I.freeC x c e),hd⟩
 refine⟨I.ok,I.os,I.bare,⟨fun b o e n hb hx=>?_,fun b o e n hb hx=>?_,fun b o e n hx=>?_,fun b o e hx=>?_,fun b xs e=>tups b xs (I.base.tups b xs e),fun b o xs e=>frzs b o xs (I.base.frzs b o xs e),fun b ps e=>?_⟩,?_,fun x c e=>?_,?_,fun x c e=>?_,fun p hp=>?_,C,I.len⟩
 ·exact keep b o (h b o e) hb (y b o e) (I.base.keep b o e n hb hx) (I.base.free b o e n hx)
 ·obtain⟨A,e1⟩:=I.base.slot b o e n hb hx
  obtain⟨E,e2⟩:=slot b _ (h b o e) hb (y b o e) e1 (I.base.free b o e n hx);exact⟨E,e2⟩
 ·obtain⟨o',e1⟩:=I.base.there b o e hx
  exact free b o' (y b o e) e1 (I.base.free b o e n hx)
 ·obtain⟨o',e1⟩:=I.base.there b o e hx
  exact there b o' (y b o e) e1
 ·obtain⟨F,e1⟩:=I.base.tbls b ps e
  obtain⟨m2,e2⟩:=tbls b _ e1;exact⟨F++m2,by rw[e2,Array.append_assoc]⟩
 ·obtain⟨m,G,J⟩:=I.loc
  refine⟨m,ns m G,fun i x v e1 e2 e3=>?_⟩;obtain⟨u,r,l⟩:=J i x v e1 e2 e3;refine⟨u,r,?_⟩;rcases l with l|⟨k,c,e,z⟩
  ·exact .inl l
  ·exact .inr ⟨k,c,e,a x c e _ z⟩
 ·obtain⟨v,z⟩:=I.cell x c e
  exact⟨v,a x c e v z⟩
 ·obtain⟨m,⟨o,_,_,g,_⟩,_⟩:=I.loc
  exact free _ o (fun z=>(j _ z).lo rfl) g I.free
 ·obtain⟨v,o,g,hd⟩:=I.cell x c e
  exact free c o (fun z=>(j c z).ce x c e rfl) g (I.freeC x c e)
 ·obtain⟨e,n,ne,D,d⟩:=I.pin p hp
  have f:p.1∉ch:=fun z=>(j p.1 z).pn p hp rfl;exact⟨keep p.1 p.2 ne D f e n,free p.1 p.2 f e n,ne,D,d⟩
def Inv.xkeep{fr:List Addr}{x:Addr}{T:Option Addr}(I:Inv X aa σ H s)(k:l8 fr x T s.heap h')(hfr:∀b∈fr,b∈frs X.stack)(ox:Off X aa x)(hx:H x=none)(d:∀a,T=some a->Off X aa a/\H a=none):Inv X aa σ H {s with heap:=h'}:=by
 have c:∀b o,b∉(x::T.toList)->s.heap.get? b=some o->∃c,h'.get? b=some {o with slots:=c}:=fun b o hc e=>by
  by_cases hb:b∈fr
  ·exact k.2.1 b o e hb
  ·exact⟨o.slots,k.1 b o e (fun z=>hc (by simp[z])) (fun z=>hc (by simp[z])) hb⟩
 refine I.stepN (ch:=x::T.toList) (fun b hb=>?_) (fun b o f hb hc e _=>?_) (fun b o _ _ hc e _=>c b o hc e) (fun _ _ _ _ n=>n) (fun b o hc e=>?_) (fun _ _ e=>e) (fun _ _ _ e=>e) (fun b ps e=>⟨#[],by rw[e];simp⟩) (fun m hm=>?_) (Hu I.hok k hx (fun a e=>(d a e).2) fun b hb=>I.stkFree b (hfr b hb))
 ·rcases List.mem_cons.mp hb with z|z
  ·rw[z];exact ox
  ·exact(d b (by simpa using z)).1
 ·exact k.1 b o e (fun z=>hc (by simp[z])) (fun z=>hc (by simp[z])) fun z=>(List.mem_cons.mp (I.stkSub b (hfr b z))).elim f hb
 ·obtain⟨z,e⟩:=c b o hc e
  exact⟨_,e⟩
 ·obtain⟨o,es,ep,g,r⟩:=hm
  obtain⟨z,e⟩:=c _ o (fun z=>by
   rcases List.mem_cons.mp z with z|z
   ·exact ox.lo z.symm
   ·exact(d _ (by simpa using z)).1.lo rfl) g
  exact⟨_,es,ep,e,r⟩
abbrev eI(x C:Addr):HO:=.ext fun h=>∃o,PySem.W.InstAt h x o C none
def Inv.know{x C:Addr}{T:Option Addr}(I:Inv X aa σ H s)(hx:H x=none)(ox:Off X aa x)(e:Xc s.heap x (.ref C) T):Inv X aa σ (upd H x (eI x C)) s:=by
 obtain⟨a,vs,he,hc,h,i,_⟩:=e;have d:PySem.W.notCls a=true:=by unfold PySem.W.notCls;rw[i]
 have f:match a.dict,(none:Option Obj) with|some dx,some o=>s.heap.get? dx=some o|none,none=>True|_,_=>False:=by rw[h];trivial
 have ne:∀b u,H b=some u->b≠x:=fun b u e z=>by rw[z,hx] at e;cases e
 refine I.stepN (h':=s.heap) (ch:=[x]) (fun b hb=>?_) (fun b o _ _ _ e _=>e) (fun b o _ _ _ e _=>⟨o.slots,e⟩) (fun b o hc _ n=>?_) (fun b o _ e=>⟨o,e⟩) (fun b xs e=>?_) (fun b o u e=>?_) (fun b ps e=>⟨#[],?_⟩) (fun m hm=>hm) (fun b u e=>?_)
 ·obtain rfl:b=x:=by simpa using hb
  exact ox
 ·rw[zl (fun z=>hc (by simp[z]))];exact n
 ·rw[zl (ne b _ e)];exact e
 ·rw[zl (ne b _ e)];exact e
 ·rw[zl (ne b _ e),e];simp
 ·by_cases hb:b=x
  ·subst hb
   rw[ai] at e;cases e;refine⟨⟨a,he,hc,d,f⟩,⟨a,he⟩,fun h1 h2 ⟨o,e1,e2,e3,g⟩ q=>⟨o,q o e1,e2,e3,?_⟩⟩;cases z:o.dict with
   |none=>trivial
   |some dx=>rw[z] at g;exact g.elim
  ·rw[zl hb] at e
   refine(I.hok b u e).stay (fun c v _ q=>q) (fun c q=>?_) fun c xs q=>?_
   ·rw[zl (ne c _ q)];exact q
   ·rw[zl (ne c _ q)];exact q
end
section
variable{X:Cx}{aa bP:Ψ}{σ:List (Option V)}{H H':Hp}{s:Shared}{h':Heap}{EB:XK}
def N_(X:Cx)(aa:Ψ)(EB:XK):Ω:=fun e s=>∃(x C:Addr)(T:Option Addr)(σ:St)(H:Hp),e=.ref x/\Inv X aa σ H s/\Xc s.heap x (.ref C) T/\H x=none/\Off X aa x/\(∀a,T=some a->Off X aa a/\H a=none)/\EB (.ref x) (some C) H
abbrev XB(X:Cx)(aa:Ψ)(EB:XK):Cx:={X with pn:=X.pn++aa,xe:=N_ X aa EB}
abbrev XH(X:Cx)(aa:Ψ)(x:Addr):Cx:={X with A:=X.A.mark (some (.ref x)),calm:=false,pn:=X.pn++aa,xe:=fun _ _=>False}
def Inv.toB(I:Inv X aa σ H s):Inv (XB X aa EB) [] σ H s:=
 ⟨⟨I.ok.mod,I.ok.kind,I.ok.glob,I.ok.blt,I.ok.above,I.ok.inj,I.ok.has,I.ok.cab,I.ok.hd,I.ok.frames,I.ok.stk,I.ok.exf,I.ok.bs,I.ok.bsz,I.ok.noex,I.ok.exfs,I.ok.funs,I.ok.frf⟩,I.os,I.bare,I.base,I.loc,I.cell,I.free,I.freeC,
  fun p hp=>I.pin p (by simpa using hp),I.hok,I.len⟩
def Inv.ofB(I:Inv (XB X aa EB) bP σ H s):Inv X aa σ H s:=
 ⟨⟨I.ok.mod,I.ok.kind,I.ok.glob,I.ok.blt,I.ok.above,I.ok.inj,I.ok.has,I.ok.cab,I.ok.hd,I.ok.frames,I.ok.stk,I.ok.exf,I.ok.bs,I.ok.bsz,I.ok.noex,I.ok.exfs,I.ok.funs,I.ok.frf⟩,I.os,I.bare,I.base,I.loc,I.cell,I.free,I.freeC,
  fun p hp=>I.pin p (List.mem_append_left _ hp),I.hok,I.len⟩
def Inv.toH{x:Addr}(I:Inv X aa σ H s):Inv (XH X aa x) [] σ H s:=
 ⟨⟨I.ok.mod,I.ok.kind,I.ok.glob,I.ok.blt,I.ok.above,I.ok.inj,I.ok.has,I.ok.cab,(fun z=>nomatch z),I.ok.frames,I.ok.stk,I.ok.exf,I.ok.bs,I.ok.bsz,I.ok.noex,I.ok.exfs,I.ok.funs,I.ok.frf⟩,I.os,I.bare,I.base,I.loc,I.cell,I.free,I.freeC,
  fun p hp=>I.pin p (by simpa using hp),I.hok,I.len⟩
def Inv.ofH{x:Addr}(I:Inv (XH X aa x) bP σ H s)(hd:X.calm=true->X.A.handled=none):Inv X aa σ H s:=
 ⟨⟨I.ok.mod,I.ok.kind,I.ok.glob,I.ok.blt,I.ok.above,I.ok.inj,I.ok.has,I.ok.cab,hd,I.ok.frames,I.ok.stk,I.ok.exf,I.ok.bs,I.ok.bsz,I.ok.noex,I.ok.exfs,I.ok.funs,I.ok.frf⟩,I.os,I.bare,I.base,I.loc,I.cell,I.free,I.freeC,
  fun p hp=>I.pin p (List.mem_append_left _ hp),I.hok,I.len⟩
def SP.ofB{D:Ends}{f:Flow}{s':Shared}(h:SP (XB X aa EB) [] D f s'):SP X aa D f s':=by
 cases f with
 |next=>obtain⟨a,H',I,q⟩:=h;exact⟨a,H',I.ofB,q⟩
 |brk=>obtain⟨a,H',I,q⟩:=h;exact⟨a,H',I.ofB,q⟩
 |cont=>obtain⟨a,H',I,q⟩:=h;exact⟨a,H',I.ofB,q⟩
 |ret u=>obtain⟨v,a,H',I,r,q⟩:=h;exact⟨v,a,H',I.ofB,r,q⟩
def Oa(hex:X.ex=[]):cF (dU X.prog X.w) (XB X aa EB) EB:=by
 rintro bP σ H1 f e g I ⟨x,C,T,H',rfl,os,c,un,d,h,i,hT,hx,j⟩;have I2:Inv (XB X aa EB) bP σ H' g:=I.call' (ch:=[]) os un d c (fun b z=>absurd z (by simp));have J:Inv X aa σ H1 f:=I.ofB;exact⟨x,C,T,σ,H',rfl,I2.ofB,hx,h,J.off hex i,fun a e=>⟨J.off hex (hT a e).2,(hT a e).1⟩,j⟩
def Inv.gone{i:Nat}{n:Str}{m:Str->Option Value}{u:Option Value}(I:Inv X aa σ H s)(C:X.N.Nodup)(hi:X.N[i]?=some n)(D:∀(i:Nat)(x:Str)(v:V),X.N[i]?=some x->σ[i]?=some (some v)->me X.env.scope x->∃u,RelV v u/\Look X.env s.heap m x u)(E:h'.Ns X.env.locals fun y=>if y=n then u else m y)(hs:AQ X.env.locals s.heap h'):Inv X aa (σ.set i none) H {s with heap:=h'}:=by
 have a:i<σ.length:=by rw[I.len];exact(List.getElem?_eq_some_iff.mp hi).1
 refine⟨I.ok,I.os,I.bare,⟨fun b o e n hb hx=>?_,fun b o e n hb hx=>?_,I.base.free,fun b o e hx=>?_,I.base.tups,I.base.frzs,I.base.tbls⟩,⟨_,E,fun j y h e1 e2 e3=>?_⟩,fun y c e=>?_,I.free,I.freeC,fun p hp=>?_,fun b ob e=>?_,by simpa using I.len⟩
 ·exact(hs.2 b (Ao (AB (Ak e) I.ok.above))).trans (I.base.keep b o e n hb hx)
 ·obtain⟨l,e1⟩:=I.base.slot b o e n hb hx
  exact⟨l,(hs.2 b (Ao (AB (Ak e) I.ok.above))).trans e1⟩
 ·obtain⟨o',e1⟩:=I.base.there b o e hx
  exact⟨o',(hs.2 b (Ao (AB (Ak e) I.ok.above))).trans e1⟩
 ·by_cases f:j=i
  ·subst f
   rw[List.getElem?_set_self a] at e2;cases e2
  ·rw[List.getElem?_set_ne (Ne.symm f)] at e2
   obtain⟨r,w,q⟩:=D j y h e1 e2 e3;refine⟨r,w,?_⟩;rcases q with ⟨k,e⟩|⟨k,c,e,z⟩
   ·refine .inl ⟨k,?_⟩
    have:y≠n:=fun e=>f (vr C e1 (e▸hi));simp[this,e]
   ·exact .inr ⟨k,c,e,z.sameBut hs (I.cne y c e)⟩
 ·obtain⟨g,z⟩:=I.cell y c e
  exact⟨g,z.sameBut hs (I.cne y c e)⟩
 ·obtain⟨e,n,ne,A,d⟩:=I.pin p hp
  exact⟨(hs.2 p.1 ne).trans e,n,ne,A,d⟩
 ·refine(I.hok b ob e).stay (fun c g hc q=>(hs.2 c ?_).trans q) (fun _ q=>q) fun _ _ q=>q
  rintro rfl;rcases hc with z|z
  ·rw[<-z,I.free] at e;cases e
  ·rw[I.free] at z;cases z
def iX(K:Ae)(C S:Addr):Prop:=∀h:Heap,K.In h->∃nm q N bs bm hdct sn sub ab col dd k0 k1 k2 k3 k5 b c d N' e a f g i j l o p r s u v w,
 h.get? C=some (excClassObj nm q C N bs bm hdct sn sub ab col dd k0 k1 k2 k3 k5 b)/\h.get? S=some (excClassObj c d S N' e a f g i j l o p r s u v w)/\
 a.contains (.type "BaseException")=true/\(Value.ref C::bm).contains (.ref S)=true
def CU(K:Ae)(n ie:Nat)(S:Addr)(d:TS)(D:Ends):XK:=fun e c H'=>∃x C,e=.ref x/\c=some C/\iX K C S/\∀a:St,a.length=n->
 d {nx:=fun b H2=>D.nx (b.set ie none) H2,rt:=fun _ _=>False} (a.set ie (some (.ref x))) (upd H' x (eI x C))
def CV(K:Ae)(n ie:Nat)(S:Addr)(t:XK->TS)(a:TS):TS:=fun D σ H=>t (CU K n ie S a D) D σ H
def Ob{n:Str}{ie:Nat}{p:Str}{S:Addr}{body Q:List Stmt}{U:Stmt}{t:XK->TS}{W:TS}{np Y pos:Pos}(hex:X.ex=[])(E:X.N.Nodup)(j:X.N[ie]?=some n)(g:X.env.scope.names.lookup n=some .local)(c:X.stack=X.env::X.outer)(hfr:X.env.frame=some X.env.locals)(xN:Gl X p)(uY:X.mg p=some (.ref S))(hb:∀aa EB,PSs (XB X aa EB) body (t EB))(hH:∀aa x,PSs (XH X aa x) (U::Q) W)(hd:(p==("__debug__":Str))=false:=by decide):PS X (.Try body [.ExceptHandler (some (.Name p np)) (some n) (U::Q) Y] [] [] pos) (CV X.K X.N.length ie S t W):=by
 intro aa s σ H D I h;refine wpAny_Try_except (wpAny_mono (hb aa _ [] s σ H D I.toB h) (fun f d q=>?_) (fun e d q=>?_))
 ·have i:SP X aa D f d:=q.ofB
  cases f with
  |next=>exact wpAny_execs_nil i
  |brk=>exact i
  |cont=>exact i
  |ret u=>exact i
 obtain⟨x,C,T,o,H1,rfl,I1,hx,y,ox,hT,x',C',e1,e2,sub,k⟩:=q;cases e1;cases e2;have xp:=c;refine N7 (base:=X.base) (outer:=X.outer) (L:=X.env.locals) (by rw[<-c];exact I1.ok.frames) (by rw[<-c];exact I1.stack) hfr hx fun h2 T2 F G r=>?_;have I2:Inv X aa o H1 {d with heap:=h2}:=I1.xkeep r (fun b z=>by rw[c];exact z) ox y hT;have ua:d.heap.get? T2=none:=Heap.get?_none_of_le F;have tI:Off X aa T2:=I1.off hex ua;have r_:H1 T2=none:=I1.hok.fresh F;refine wpAny_handleBy_cons (codeAny_handlers_test ?_) (by intro q;cases q);refine mm (X:=XH X aa x) (I2.toH (x:=x)) xN uY ?_ hd;obtain⟨nm,q,N,bs,bm,hdct,sn,eB,ab,col,dd,k0,k1,k2,k3,k5,bJ,i8,i,N',jb,gl,b_,i_,qe,jd,dW,cK,i4,ji,jh,jm,i7,cr,hC,hS,lQ,aB⟩:=sub h2 I2.kIn;obtain⟨oe,vs,gn,A,_⟩:=id G;refine N9 hC hS gn A lQ aB ?_;show codeAny _ _ _ _ _;refine codeAny_handlers_suite_as ?_;refine N8 G fun w tO lz=>?_;have I4:Inv X aa o H1 {d with heap:=w}:=I2.xkeep (h':=w) lz (fun b z=>absurd z (by simp)) ox y (fun a e=>by cases e;exact⟨tI,r_⟩);have I5:Inv X aa o (upd H1 x (eI x C)) {d with heap:=w}:=I4.know y ox tO;refine qf (X:=XH X aa x) (I5.toH (x:=x)) E j (.inl g) (v:=.ref x) rfl (fun s6 I6=>?_) (.inr g);refine wpAny_mono (hH aa x [] s6 _ _ _ I6 (k o I1.len)) (fun f J l=>?_) fun _ _ z=>z.elim;cases f with
 |brk=>obtain⟨_,_,_,z⟩:=l;exact z.elim
 |cont=>obtain⟨_,_,_,z⟩:=l;exact z.elim
 |ret u=>obtain⟨_,_,_,_,_,z⟩:=l;exact z.elim
 |next=>
  obtain⟨M,Z,I7,d7⟩:=l;have I7':Inv X aa M Z J:=I7.ofH I.ok.hd;show wpAny _ _ (do bindName X.env n .none;unbindBehindTheSuite X.env n Y) _ _ J;refine Aa (wpAny_bindName (qf I7' E j (.inl g) (v:=.non) rfl (fun s8 I8=>?_) (.inr g)));obtain⟨m,hn,O⟩:=id I8.loc;have l6:ie<M.length:=by rw[I7'.len];exact(List.getElem?_eq_some_iff.mp j).1
  obtain⟨u,_,lk⟩:=O ie n .non j (by rw[List.getElem?_set_self l6]) (.inl g);have P:X.env.kindOf n=some .local:=g;have hm:m n=some u:=by
   rcases lk with ⟨_,e⟩|⟨z,_⟩
   ·exact e
   ·rw[P] at z;rcases z with z|z<;>cases z
  unfold unbindBehindTheSuite;refine wpAny_onRaise (wpAny_unbindName_local P hn hm (by rw[I.ok.kind];rfl) fun h9 u9 tj xL=>?_);have I9:=I8.gone E j O tj xL;rw[List.set_set] at I9;exact⟨_,Z,I9,d7⟩
end
def Oc{K:Ae}{C:Addr}{name:Str}{a g:Value}(hc:(PySem.W.clsIn K C).isSome=true)(b:PySem.W.findIn K (.ref C) name=some (some a))(c:PySem.W.specialIn K a "__get__"=some (some g))(d:PySem.W.takesIn K a=some true):PySem.W.findObj K C none name=some (.bind g a):=by
 obtain⟨e,hc⟩:=Option.isSome_iff_exists.mp hc;unfold PySem.W.findObj;rw[hc,Option.bind_some,b,Option.bind_some];simp[c,d]
structure dX(K:Ae)(D:Addr):Prop where
 ga:PySem.W.findIn K (.ref D) "__getattribute__"=some (some (.builtin "BaseException.__getattribute__"))
 gt:PySem.W.findIn K (.ref D) "__getattr__"=some none
 cls:(PySem.W.clsIn K D).isSome=true
 find:PySem.W.findIn K (.ref D) "__class__"=some (some (.builtin "object.__class__"))
 spec:PySem.W.specialIn K (.builtin "object.__class__") "__get__"=some (some (.builtin "getset_descriptor.__get__"))
 tk:PySem.W.takesIn K (.builtin "object.__class__")=some true
 mro:PySem.W.mroIn K D (.type "object")=some true
 mroB:PySem.W.mroIn K D (.type "BaseException")=some true
section
variable{prog:Program}{w:World}{A:Around}{E:Ω}{s:Shared}{K:Ae}{x D:Addr}{ox:Obj}
def Od{M:Model}{b:Value}{Q:Unit->Shared->Prop}(c:dX K D)(X:K.In s.heap)(I:PySem.W.InstAt s.heap x ox D none)(hq:Q () s):wpAny M A (checkBuiltinCall "BaseException.__getattribute__" ⟨[.ref x,b],[]⟩) Q E s:=by
 obtain⟨e,g,d,t,os⟩:=s;have hk:builtinKind "BaseException.__getattribute__"=some .slot:=δ
 have a:splitId "BaseException.__getattribute__"=some ("BaseException","__getattribute__"):=δ
 have f:=F.args_bexc_ga (.ref x) b;have L0:=I.type (M:=M);have L1:=PySem.W.looks_mroIn (M:=M) X c.mroB;simp only[checkBuiltinCall,hk,a];refine Aa ?_;unfold isInstance;refine Aa (L0.at (L1.at ?_))
 repeat(first|assumption|wp_step)
def Oe{tk:Tok}{Q:Fin->Shared->Prop}(c:dX K D)(X:K.In s.heap)(I:PySem.W.InstAt s.heap x ox D none)(hq:Q (.done (.ret (.ref D))) s):wpAny (model prog w) A (Builtin.«object.__getattribute__» ⟨[.ref x,.str "__class__" tk],[]⟩) Q E s:=by
 obtain⟨a,g,d,t,os⟩:=s;have hf:=Oc c.cls c.find c.spec c.tk;have L0:=I.type (M:=model prog w);have L1:=PySem.W.looks_find (M:=model prog w) X I hf;unfold Builtin.«object.__getattribute__»
 repeat(first|with_reducible refine Aa (L0.at ?_)|with_reducible refine Aa (L1.at ?_)|wp_step)
 exact PySem.W.class_get (s:=⟨a,g,d,t,os⟩) X I c.mro (Ac hq)
def Of{Q:Option Value->Shared->Prop}(c:dX K D)(X:K.In s.heap)(I:PySem.W.InstAt s.heap x ox D none)(h:Q (some (.ref D)) {s with toks:=s.toks+1}):wpAny (model prog w) A (getAttr? (.ref x) "__class__") Q E s:=by
 obtain⟨a,g,d,t,os⟩:=s;have L0:=I.type (M:=model prog w);have L1:=PySem.W.looks_findIn (M:=model prog w) X c.ga;have L2:=PySem.W.looks_findIn (M:=model prog w) X c.gt;have FA:=F.excAttr_ValueError;have f3:=FA.ga.bind (.ref x);have b:(Value.builtin "BaseException.__getattribute__" == Value.builtin "object.__getattribute__")=false:=δ
 unfold getAttr? getAttrBy? getAttrBy;refine Aa (wpAny_mkText (Aa (wpAny_attempt (AA (Aa (L0.at (Aa (L1.at ?_))))))));dsimp only;rw[if_neg (by rw[b,Bool.and_false];decide)];unfold getAttrByItsOwn hookBefore;rw[if_pos (show onTheHeap (.ref D)=true from rfl)];refine Aa (L2.at ?_);refine Aa (wpAny_attempt (AA ?_));unfold callGetattribute boundAndCalled;rw[Bool.false_and,if_neg Aq,f3];refine Aa (Ac ?_);refine wpAny_call (codeAny_call_builtin FA.ga.plain F.entry_bexc_ga (Od (s:=⟨a,g,d,t+1,os⟩) c X I (Oe (s:=⟨a,g,d,t+1,os⟩) c X I ?_)));exact PySem.W.handed_on rfl (Ac h)
end
def Og{K:Ae}{x D:Addr}{ox:Obj}(c:dX K D):PySem.W.KitX K (.ref x) (.ref D) (fun h=>PySem.W.InstAt h x ox D none) where
 ty:=fun _ _ _ I=>I.type
 it:=fun _ _ X _=>by
  obtain⟨d,a⟩:=Option.isSome_iff_exists.mp c.cls;unfold PySem.W.clsIn at a;split at a
  ·rename_i c' d' cd' gQ ho
   intro i j l s' k q;unfold isType loadHead;exact Aa (wpAny_loadPart (k _ _ (X _ _ ho)) (Ac q))
  ·cases a
 ne:=fun h tp dd f n g X b=>by
  obtain⟨d,a⟩:=Option.isSome_iff_exists.mp c.cls;refine Bool.eq_false_iff.mpr fun q=>?_;have e:D=tp:=Value.ref.inj (beq_iff_eq.mp q);subst e;unfold PySem.W.clsIn at a;split at a
  ·rename_i c' d' cd' gQ ho
   have z:=(X _ _ ho).symm.trans b;cases z
  ·cases a
 ca:=fun X I k=>Of c X I k
section
variable{X:Cx}
def Hw{c:V}{a:Value}{b:Bool}{C:Addr}(g:∀u,RelV c u->u=a)(i:dX X.K C)(e:AJ X.K (.ref C) a=some b):zU X (.builtin "isinstance") (fun xs H Q=>∃x,xs=[.ref x,c]/\H x=some (eI x C)/\Q (.bl b) H):=by
 intro aa s σ H xs us Q I r h;obtain⟨x,rfl,hx,q⟩:=h;obtain⟨u,j,rfl,d,f⟩:=vals2 r;obtain rfl:=g _ f;cases(show u=Value.ref x from d);obtain⟨⟨o,p⟩,_⟩:=(show zB X.prog X.w H s.heap x (eI x C) from I.hok x _ hx);exact PySem.W.kia_one (Og i) I.kIn p e (fun z=>nomatch z) fun tk=>⟨.bl b,H,I.tok _,rfl,q⟩
end
structure zco(k:Nat)(A:Around):Prop where
 dp:A.depth+3*k+5<recursionLimit
 un:A.units+16*k+200<cLine
def Room.mark{k:Nat}{A:Around}(r:Room k A)(v:Option Value):zco k (A.mark v):=⟨r.dp,r.un⟩
def zco.deeper{k:Nat}{A:Around}(r:zco (k+1) A)(env:Env):zco k (A.deeper env):=
 ⟨by have:=r.dp;show A.depth+1+3*k+5<_;omega,by have:=r.un;show A.units+3+16*k+200<_;omega⟩
def zco.depth{k:Nat}{A:Around}(r:zco k A):A.depth<recursionLimit:=by have:=r.dp;omega
def zco.units{k:Nat}{A:Around}(r:zco k A):A.units+64<cLine:=by have:=r.un;omega
structure pK(P:Program)(w:World)(K:Ae)(mg:Str->Option Value)(base:Heap)(k:Nat)(f:Addr)(fd:FuncData)(ps:List Str)(sp:Sp):Prop where
 len:∀vs H Q E,sp vs H Q E->vs.length=ps.length
 run:∀(A:Around)(outer:List Env)(s:Shared)(H:Hp)(args:Args)(us:List Value)(vs:List V)(Q:VK)(E:XK),zco k A->Env0 P w K mg base A outer s H->BindsTo s fd args (ps.zip us)->Vals vs us->sp vs H Q E->
  codeAny (model P w) A (.call (.ref f) args) (CR aw outer P w H s Q E) s
abbrev pL(P:Program)(w:World)(K:Ae)(mg:Str->Option Value)(base:Heap)(N:List Str)(aj:Str)(scope:Scope)(f:Addr)(cd:Value)(A:Around)(outer:List Env)(s:Shared)(H:Hp)(E:XK):Cx:=
 {bh aw P w K mg base N aj scope f cd A outer s H E with calm:=false,xe:=fun _ _=>False}
def Oh{P:Program}{w:World}{K:Ae}{mg:Str->Option Value}{base:Heap}{N ps:List Str}{b:Str}{scope:Scope}{f:Addr}{c:Value}{A:Around}{outer:List Env}{s d:Shared}{H:Hp}{E:XK}{us:List Value}{vs:List V}(S:zn N ps scope)(a:Env0 P w K mg base A outer s H)(e:vs.length=ps.length)(r:Vals vs us)(x:InCallC s s⁻¹ (bindL (envOfC b scope s⁻¹ f c).kindOf (ps.zip us) fun _=>none) (cellsFrom (s⁻¹+1) scope.names []) (bindC (envOfC b scope s⁻¹ f c).kindOf (ps.zip us) fun _=>none) d):Inv (pL P w K mg base N b scope f c A outer s H E) [] (start N vs) H d:=by
 have I:Inv (bh aw P w K mg base N b scope f c {A with handled:=none} outer s H E) [] (start N vs) H d:=Du (A:={A with handled:=none}) S rfl ⟨a.frames,a.mod,a.bs,a.bsz,a.funs,a.frf,a.hok,a.bare⟩ e r x;exact⟨⟨I.ok.mod,I.ok.kind,I.ok.glob,I.ok.blt,I.ok.above,I.ok.inj,I.ok.has,I.ok.cab,(fun z=>nomatch z),Around.frames_deeper a.frames,I.ok.stk,I.ok.exf,I.ok.bs,I.ok.bsz,I.ok.noex,I.ok.exfs,I.ok.funs,I.ok.frf⟩,I.os,I.bare,I.base,I.loc,I.cell,I.free,I.freeC,I.pin,I.hok,I.len⟩
def Oi{P:Program}{w:World}{K:Ae}{mg:Str->Option Value}{base:Heap}{k:Nat}{f:Addr}{name a:Str}{h:Arguments}{body:List Stmt}{scope:Scope}{i kV j l cdv ct X:Value}{p Y:Option Addr}{F:Array (Option Value)}{N ps:List Str}{sp:Sp}(lk:K.lookup f=some ⟨X,Y,.func (PySem.W.fnOf name a h body scope i kV j l p cdv ct),F⟩)(G:PySem.W.codeIn K cdv a=true)(S:zn N ps scope)(len:∀vs H Q E,sp vs H Q E->vs.length=ps.length)(Z:∀(A:Around)(outer:List Env)(s:Shared)(H:Hp)(vs:List V)(Q:VK)(E:XK),zco k (A.deeper (envOfC a scope s⁻¹ f cdv))->sp vs H Q E->
   ∃t,PSs (pL P w K mg base N a scope f cdv A outer s H E) body t/\t {nx:=fun _ H'=>Q .non H',rt:=Q} (start N vs) H):
  pK P w K mg base (k+1) f (PySem.W.fnOf name a h body scope i kV j l p cdv ct) ps sp:=by
 refine⟨len,fun A outer s H args us vs Q E hr c hb r z=>?_⟩;have O:=len _ _ _ _ z;have D:K.In s.heap:=c.mod.kin.keeps fun b o e=>(c.bs b o e).1;have T:s.heap.NoLimit:=c.mod.nolimit.keeps fun b o e=>(c.bs b o e).1;have U:∀y∈ps.zip us,scope.names.lookup y.1=some .local\/(scope.names.lookup y.1=some .cell/\((cellsFrom (s⁻¹+1) scope.names []).lookup y.1).isSome=true):=fun⟨n,v⟩ hy=>by
  rcases S.par n (List.of_mem_zip hy).1 with q|q
  ·exact .inl q
  ·exact .inr ⟨q,PySem.W.cellsFrom_some _ _ _ (.inl q)⟩
 refine codeAny_call_function hr.depth (D _ _ lk) rfl S.co S.gen rfl (PySem.W.codeRec_of D G) (hb _ _ _ _ ?_);refine wpAny_newFunctionEnv_cells S.kind U fun env he C x=>?_;subst he;refine⟨T.keeps x.toInCall.keep,codeAny_func ?_⟩;obtain⟨t,M,hq⟩:=Z A outer s H vs Q E (hr.deeper _) z;have I:Inv (pL P w K mg base N a scope f cdv A outer s H E) [] (start N vs) H C:=Oh S c O r x;refine wpAny_mono (M [] C (start N vs) H _ I hq) (fun L s' hs=>?_) fun e s' hs=>hs.elim;have fin:∀{d:St}{H':Hp}{v:V}{u:Value},Inv (pL P w K mg base N a scope f cdv A outer s H E) [] d H' s'->RelV v u->Q v H'->CE outer P w H s Q u s':=
  fun{d H' v u} J g q=>⟨v,H',J.os,J.bare,J.base,J.hok,g,q⟩
 cases L with
 |ret u=>
  obtain⟨v,d,H',J,g,q⟩:=hs;exact fin J g q
 |next=>
  obtain⟨d,H',J,q⟩:=hs;exact fin (v:=V.non) (u:=Value.none) J rfl q
 |brk=>
  obtain⟨_,_,_,q⟩:=hs;exact False.elim q
 |cont=>
  obtain⟨_,_,_,q⟩:=hs;exact False.elim q
def Fun.okN{P:Program}{w:World}{K:Ae}{mg:Str->Option Value}{base:Heap}{x a:Str}{st:Stmt}{f:Addr}{fd:FuncData}{N ps:List Str}{k:Nat}{sp:Sp}(F:Fun K x a st f fd)(S:zn N ps (zb st))(len:∀vs H Q E,sp vs H Q E->vs.length=ps.length)(d:∀(cdv:Value)(A:Around)(outer:List Env)(s:Shared)(H:Hp)(vs:List V)(Q:VK)(E:XK),zco k (A.deeper (envOfC a (zb st) s⁻¹ f cdv))->sp vs H Q E->
   ∃t,PSs (pL P w K mg base N a (zb st) f cdv A outer s H E) (zP st) t/\t {nx:=fun _ H'=>Q .non H',rt:=Q} (start N vs) H):pK P w K mg base (k+1) f fd ps sp:=by
 obtain⟨e,g,kV,h,i,j,cdv,ct,l,rfl,lk,c⟩:=F.ex;exact Oi lk c S len fun A outer s H vs Q E hr b=>d cdv A outer s H vs Q E hr b
section
variable{X:Cx}{k:Nat}{f:Addr}{fd:FuncData}{ps:List Str}{sp:Sp}{dQ:List V}{ds:List Value}{E:XK}{x:Str}{p pos:Pos}{e:Expr}{es:List Expr}{t:TA}
def Oj(F:pK X.prog X.w X.K X.mg X.base k f fd ps sp)(hr:zco k X.A)(g:Gl X x)(hm:X.mg x=some (.ref f))(hk:PySem.W.keepIn X.K (.ref f)=true)(hb:Binds X.K fd ps ds)(hd:Vals dQ ds)(i:PA X (e::es) t)(j:(x==("__debug__":Str))=false:=by decide)(he:starEach (e::es) X.env=(false,eval e X.env)::starEach es X.env:=by rfl)(a:(backTo pos (starEach es X.env)).any (·.1)=false:=by rfl):PE X (.Call (.Name x p) (e::es) [] pos) (qK sp dQ E t):=by
 intro aa s σ H Q I h;refine wpAny_Call_Name_kw (mm I g hm ?_ j);refine PySem.W.callWith_K (h₀:=X.base) I.ok.mod.kin hk (aL (i pos aa s σ H _ I h) fun us b ⟨vs,H1,I1,r,q⟩=>⟨I1.kIn,?_⟩) he a;have c:Vals (vs++dQ) (us++ds):=r.append hd;have d:(us++ds).length=ps.length:=by rw[<-c.length];exact F.len _ _ _ _ q
 refine wpAny_call (Bc (F.run X.A X.stack b H1 ⟨us,[]⟩ (us++ds) (vs++dQ) Q E hr I1.env0 (hb b us I1.kIn d) c q) fun r s' hq=>?_);cases r with
 |error e=>exact hq.elim
 |ok fl=>
  cases fl with
  |ret u=>exact I1.after hq
  |next=>exact False.elim hq
  |brk=>exact False.elim hq
  |cont=>exact False.elim hq
end
section
variable{X:Cx}
abbrev zlN:V->List V->Hp->VK->Prop:=fun x vs H Q=>∃(l:Addr)(ys:List V)(y:V),x=.ref l/\vs=[y]/\H l=some (.lst ys)/\ys.all eE=true/\eE y=true/\Q (.int (ys.countP fun z=>eG z y)) H
abbrev zmV:V->List V->Hp->VK->Prop:=fun x vs H Q=>∃(l:Addr)(ys:List V)(y:V)(j:Nat),x=.ref l/\vs=[y]/\H l=some (.lst ys)/\ys.all eE=true/\eE y=true/\j<1000/\((ys[j]?).map fun z=>eG z y)=some true/\(∀m,m<j->((ys[m]?).map fun z=>eG z y)=some false)/\Q (.int j) H
def Ol{x:V}{xs:List V}{us:List Value}(h:Vals xs us)(f:xs.all eE=true):us.countP (d0 x)=xs.countP fun y=>eG y x:=by
 induction h with
 |nil=>rfl
 |cons r t ih=>
  rw[List.all_cons,AN] at f;rw[List.countP_cons,List.countP_cons,qT r f.1,ih f.2]
def Hx{x:V}{xs:List V}{us:List Value}(h:Vals xs us)(f:xs.all eE=true):∀m:Nat,(us[m]?).map (d0 x)=(xs[m]?).map fun y=>eG y x:=by
 induction h with
 |nil=>intro m;simp
 |cons r t ih=>
  rw[List.all_cons,AN] at f;intro m;cases m with
  |zero=>simp[qT r f.1]
  |succ m=>simpa using ih f.2 m
def Om:kW X "list.count" zlN:=by
 intro aa s σ H x vs v us Q I d f h;obtain⟨l,ys,y,rfl,rfl,i,a,j,q⟩:=h;cases d;obtain⟨u,rfl,o⟩:=f.one;obtain⟨z,b,c,r,w,e⟩:=I.lstM i;refine call_meets F.slot_list_count ⟨_,e,rfl⟩ F.entry_list_count (F.args_list_count_2 _ _) (SeqAt.list_countAt l b.toArray c none #[] u (d0 y)) ⟨e,fun g hy=>?_,?_⟩
 ·exact nq o j r a g (by simpa using hy)
 ·have p:b.toArray.toList.countP (d0 y)=ys.countP fun z=>eG z y:=Ol r a
  exact⟨.int (ys.countP fun z=>eG z y),H,I.tok _,⟨_,by rw[<-p]⟩,q⟩
def On:kW X "list.index" zmV:=by
 intro aa s σ H x vs v us Q I g i h;obtain⟨l,ys,y,j,rfl,rfl,w,b,A,D,h1,h2,q⟩:=h;cases g;obtain⟨u,rfl,C⟩:=i.one;obtain⟨z,a,c,r,E,e⟩:=I.lstM w;have g1:=(Hx (x:=y) r b j).trans h1;have f:j<a.toArray.size:=by
  rcases Nat.lt_or_ge j a.length with q|q
  ·simpa using q
  ·rw[List.getElem?_eq_none q] at g1;cases g1
 have get:∀(m:Nat)(hm:m<a.toArray.size),(a[m]?).map (d0 y)=some (d0 y a.toArray[m]):=fun m hm=>by
  rw[Af (by simpa using hm)];rfl
 have d:(j:Int)<2 ^ 63-1:=by
  have h1:(j:Int)<1000:=ω
  have h2:(1000:Int)<2 ^ 63-1:=ξ
  omega
 refine call_meets F.slot_list_index ⟨_,e,rfl⟩ F.entry_list_index (F.args_list_index_2 _ _) (SeqAt.list_indexAt l a.toArray c none #[] u (d0 y) j f d ?_ ?_) ⟨e,fun o hy=>?_,?_⟩
 ·exact An ((get j f).symm.trans g1)
 ·intro m hm p
  exact An ((get m hm).symm.trans ((Hx (x:=y) r b m).trans (h2 m p)))
 ·exact nq C A r b o (by simpa using hy)
 ·exact⟨.int j,H,I.tok _,⟨_,rfl⟩,q⟩
end
def Oo{K:Ae}{C S:Addr}(F:PySem.W.excIn K C kt "ValueError.__new__"=true)(G:PySem.W.excIn K S kt "ValueError.__new__"=true)(m:PySem.W.mroIn K C (.ref S)=some true):iX K C S:=by
 intro h X;obtain⟨bm,N,nm,e,bs,hdct,sn,sub,ab,col,dd,k0,k1,k2,k3,k5,H,_,I,d⟩:=CT X F;obtain⟨f,N',i,j,l,o,p,q,r,s,u,v,w,x,y,A,L,_,D,E⟩:=CT X G;refine⟨nm,e,N,bs,bm,hdct,sn,sub,ab,col,dd,k0,k1,k2,k3,k5,_,i,j,N',l,f,o,p,q,r,s,u,v,w,x,y,A,_,(d h X).1,(E h X).1,D _ ξ,?_⟩;have g:=(d h X).1;unfold PySem.W.mroIn at m;obtain⟨J,a,b⟩:=Option.bind_eq_some_iff.mp m;unfold PySem.W.clsIn at a;split at a
 ·rename_i c' d' cd' gQ ho
  cases a;have z:=(X _ _ ho).symm.trans g;injection z with z
  have c:=congrArg Obj.data z;injection c with c
  subst c;split at b
  ·cases b
  ·exact An b
 ·cases a
def Op{K:Ae}{C:Addr}{bm:List Value}{n:String}(q:PySem.W.excIn K C bm n=true):(PySem.W.clsIn K C).isSome=true:=by
 unfold PySem.W.excIn at q;unfold PySem.W.clsIn;split at q
 ·rename_i ho;rw[ho];rfl
 ·cases q
def Cl(P:Program)(w:World)(K:Ae)(mg:Str->Option Value)(base:Heap)(CX:eu)(x:Str)(ps:List Str)(k:Nat)(sp:Sp):Prop:=
 ∃(f:Addr)(fd:FuncData),PySem.W.keepIn K (.ref f)=true/\Binds K fd ps []/\mg x=some (.ref f)/\FnOk P w K mg base CX k f fd ps sp
section
variable{X:Cx}{CX:eu}{k n:Nat}{ps:List Str}{sp:Sp}{E:XK}{x:Str}{p pos:Pos}{e:Expr}{es:List Expr}{t:TA}
def zL(C:Cl X.prog X.w X.K X.mg X.base CX x ps k sp)(hr:Room n X.A)(b:Gl X x)(hx:cF CX X E)(c:PA X (e::es) t)(d:k<=n:=by decide)(g:(x==("__debug__":Str))=false:=by decide)
  (he:starEach (e::es) X.env=(false,eval e X.env)::starEach es X.env:=by rfl) (a:(backTo pos (starEach es X.env)).any (·.1)=false:=by rfl):PE X (.Call (.Name x p) (e::es) [] pos) (qK sp [] E t):=by
 obtain⟨f,fd,hk,hb,hm,F⟩:=C;exact zq F (hr.mono d) b hm hk hb .nil hx c g he a
end
section
variable{P:Program}{w:World}{K:Ae}{mg:Str->Option Value}{base:Heap}{CX:eu}{k:Nat}{f:Addr}{fd:FuncData}{x:Str}{st:Stmt}{ps:List Str}{sp sq:Sp}
def FnOk.or(F:FnOk P w K mg base CX k f fd ps sp)(G:FnOk P w K mg base CX k f fd ps sq):FnOk P w K mg base CX k f fd ps (fun vs H Q E=>sp vs H Q E\/sq vs H Q E):=
 ⟨fun vs H Q E h=>h.elim (F.len vs H Q E) (G.len vs H Q E),fun A outer s H args us vs Q E hr he hb a h=>h.elim (F.run A outer s H args us vs Q E hr he hb a) (G.run A outer s H args us vs Q E hr he hb a)⟩
def cV(F:Fun K x x st f fd)(b:Binds K fd ps [])(m:mg x=some (.ref f))(G:FnOk P w K mg base CX k f fd ps sp):Cl P w K mg base CX x ps k sp:=⟨f,fd,F.kp,b,m,G⟩
structure Df(K:Ae)(x:Str)(st:Stmt)(f:Addr):Prop where
 ex:∃fd,Fun K x x st f fd
 a:PySem.W.nsIn K mainGlobals x=some (some (.ref f))
def CW{h:Value}{i e:Option Addr}{g:Array (Option Value)}{kV b d cdv ct:Value}(a:PySem.W.nsIn K mainGlobals x=some (some (.ref f)))(l:K.lookup f=some ⟨h,i,.func (PySem.W.fnOf x x (zb8 st) (zP st) (zb st) .none kV b d e cdv ct),g⟩)(c:PySem.W.codeIn K cdv x=true)(k:PySem.W.keepIn K (.ref f)=true):Df K x st f:=⟨⟨_,Jr l c k⟩,a⟩
structure Nn(K:Ae)(x:Str)(v:Option Value):Prop where
 e:PySem.W.nsIn K mainGlobals x=some v
abbrev BA(x:Str)(st:Stmt)(us:List Value)(r:List (Str×Value)):Prop:=∀(kV bd pm:Value)(an:Option Addr)(cdv ct:Value),bindArgs (PySem.W.fnOf x x (zb8 st) (zP st) (zb st) .none kV bd pm an cdv ct) ⟨us,[]⟩=pure r
variable{h:Heap}(X:K.In h)(G:h.Ns mainGlobals mg)
include X G
theorem Nn.m{v:Value}(n:Nn K x (some v)):mg x=some v:=PySem.W.mg_of X G n.e
theorem Nn.n(n:Nn K x none):mg x=none:=PySem.W.mg_none_of X G n.e
theorem Df.m(D:Df K x st f):mg x=some (.ref f):=PySem.W.mg_of X G D.a
theorem Df.g1(D:Df K x st f)(p:Str)(hb:∀a,BA x st [a] [(p,a)]:=by exact fun _ _ _ _ _ _ _=>rfl):∃fd,Fun K x x st f fd/\Binds K fd [p] []/\mg x=some (.ref f):=by
 obtain⟨⟨fd,F⟩,a⟩:=D;refine⟨fd,F,F.binds fun _ _ _ _ _ _ us b=>?_,PySem.W.mg_of X G a⟩
 match us,b with
 |[a],_=>exact hb a _ _ _ _ _ _
theorem Df.g2(D:Df K x st f)(p q:Str)(hb:∀a b,BA x st [a,b] [(p,a),(q,b)]:=by exact fun _ _ _ _ _ _ _ _=>rfl):∃fd,Fun K x x st f fd/\Binds K fd [p,q] []/\mg x=some (.ref f):=by
 obtain⟨⟨fd,F⟩,a⟩:=D;refine⟨fd,F,F.binds fun _ _ _ _ _ _ us c=>?_,PySem.W.mg_of X G a⟩
 match us,c with
 |[a,b],_=>exact hb a b _ _ _ _ _ _
theorem Df.g3(D:Df K x st f)(p q r:Str)(hb:∀a b c,BA x st [a,b,c] [(p,a),(q,b),(r,c)]:=by exact fun _ _ _ _ _ _ _ _ _=>rfl):∃fd,Fun K x x st f fd/\Binds K fd [p,q,r] []/\mg x=some (.ref f):=by
 obtain⟨⟨fd,F⟩,a⟩:=D;refine⟨fd,F,F.binds fun _ _ _ _ _ _ us d=>?_,PySem.W.mg_of X G a⟩
 match us,d with
 |[a,b,c],_=>exact hb a b c _ _ _ _ _ _
theorem Df.g4(D:Df K x st f)(p q r s:Str)(hb:∀a b c d,BA x st [a,b,c,d] [(p,a),(q,b),(r,c),(s,d)]:=by exact fun _ _ _ _ _ _ _ _ _ _=>rfl):∃fd,Fun K x x st f fd/\Binds K fd [p,q,r,s] []/\mg x=some (.ref f):=by
 obtain⟨⟨fd,F⟩,a⟩:=D;refine⟨fd,F,F.binds fun _ _ _ _ _ _ us e=>?_,PySem.W.mg_of X G a⟩
 match us,e with
 |[a,b,c,d],_=>exact hb a b c d _ _ _ _ _ _
theorem Df.g5(D:Df K x st f)(p q r s u:Str)(hb:∀a b c d e,BA x st [a,b,c,d,e] [(p,a),(q,b),(r,c),(s,d),(u,e)]:=by exact fun _ _ _ _ _ _ _ _ _ _ _=>rfl):∃fd,Fun K x x st f fd/\Binds K fd [p,q,r,s,u] []/\mg x=some (.ref f):=by
 obtain⟨⟨fd,F⟩,a⟩:=D;refine⟨fd,F,F.binds fun _ _ _ _ _ _ us g=>?_,PySem.W.mg_of X G a⟩
 match us,g with
 |[a,b,c,d,e],_=>exact hb a b c d e _ _ _ _ _ _
omit X G
theorem Oq{C:Addr}(a:PySem.W.findIn K (.ref C) "__getattribute__"=some (some (.builtin "BaseException.__getattribute__")))(b:PySem.W.findIn K (.ref C) "__getattr__"=some none)(q:PySem.W.excIn K C kt "ValueError.__new__"=true)(c:PySem.W.findIn K (.ref C) "__class__"=some (some (.builtin "object.__class__")))(d:PySem.W.specialIn K (.builtin "object.__class__") "__get__"=some (some (.builtin "getset_descriptor.__get__")))(e:PySem.W.takesIn K (.builtin "object.__class__")=some true)(f:PySem.W.mroIn K C (.type "object")=some true)(g:PySem.W.mroIn K C (.type "BaseException")=some true):dX K C:=
 ⟨a,b,Op q,c,d,e,f,g⟩
end
end L2
end
section
namespace K56
open K1
open PySem L2 STb
abbrev iY:Stmt:=top 41
abbrev CY:Stmt:=top 42
abbrev CZ:Stmt:=top 43
abbrev C0:Stmt:=top 44
def eK(ns ms:List (Int×Int))(p:List Int):List Int:=(dd (p.map (nv ns)++p.map (nv ms))).mergeSort (·<=·)
def Hy{ns ms:List (Int×Int)}{p d:List Int}(h1:d.Perm (dd (p.map (nv ns)++p.map (nv ms))))(h2:d.Pairwise (·<=·)):d=eK ns ms p:=by
 refine List.Perm.eq_of_pairwise (le:=fun a b:Int=>a<=b) (fun a b _ _=>Int.le_antisymm) h2 ?_ (h1.trans (List.mergeSort_perm _ _).symm);exact(List.pairwise_mergeSort (le:=fun a b:Int=>decide (a<=b)) (fun a b c h1 h2=>by simp at *;omega) (fun a b=>by simp;omega) _).imp fun h=>by simpa using h
def besM(ns ms:List (Int×Int))(a there:Ξ):Bool:=a.all fun p=>decide (eK ns ms p∈there)
def fV(xs ys:List Int)(n:Int)(j:Nat):Ch:=(Ba j).flatMap fun k=>im (xs.take (k+1)++ys.drop k) (sg k n)
def C1(xs ys:List Int)(n:Int)(j:Nat):fV xs ys n (j+1)=fV xs ys n j++im (xs.take (j+1)++ys.drop j) (sg j n):=by
 unfold fV;rw[List.range_succ,List.flatMap_append];simp
def pM(xs ys:List Int)(n:Int):∀j,(fV xs ys n j).length<=j
 |0=>by simp[fV]
 |j+1=>by
  rw[C1,As];have:=pM xs ys n j;have:=GZ (xs.take (j+1)++ys.drop j) (sg j n);omega
def C2(ns ms:List (Int×Int))(c:List Int×Int):Ch:=fV (c.1.map (nv ns)) (c.1.map (nv ms)) c.2 c.1.length
def dA(ns ms:List (Int×Int))(cs:Ch):Ch:=cs.flatMap (C2 ns ms)
def l9{ns ms:List (Int×Int)}:∀{cs:Ch},(∀c∈cs,c.1.length<=5)->(dA ns ms cs).length<=5*cs.length
 |[],_=>by simp[dA]
 |c::r,h=>by
  unfold dA;rw[List.flatMap_cons,As,Au];have h1:(C2 ns ms c).length<=c.1.length:=pM _ _ _ _;have h2:=h c Av;have a:(r.flatMap (C2 ns ms)).length<=5*r.length:=l9 fun d hd=>h d (Ay _ hd);omega
section
variable{P:Program}{w:World}{K:Ae}{mg:Str->Option Value}{base:Heap}{f fM:Addr}{fd:FuncData}
abbrev QX(K:Ae)(C:Addr):Prop:=PySem.W.excIn K C kt "ValueError.__new__"=true
def Hz:Sp:=fun vs H Q _=>∃d e a ns ms p,vs=[.ref d,.ref e,.ref a]/\H d=some (zV ns)/\H e=some (zV ms)/\Tp H a p/\p.length<=5/\(∀x∈p,x∈ns.map (·.1))/\(∀x∈p,x∈ms.map (·.1))/\∀t H',Same H H'->H t=none->Tp H' t (eK ns ms p)->Q (.ref t) H'
def Os:zn ["one","two","piece"] ["one","two","piece"] (zb CY):=⟨rfl,rfl,rfl,δ,rfl,δ,δ⟩
def Ot(F:Fun K "both_images" "both_images" CY f fd)(B:Bt mg)(u:Cl P w K mg base aw "names_along" ["names","piece"] 1 tT):FnOk P w K mg base aw 2 f fd ["one","two","piece"] Hz:=by
 refine F.ok Os (fun vs H Q E h=>?_) (fun cdv A outer s H vs Q E hr h=>?_)
 ·obtain⟨d,e,a,ns,ms,p,rfl,_⟩:=h;rfl
 ·obtain⟨d,e,a,ns,ms,p,rfl,hd,he,q,hp,z,hm,k⟩:=h
  refine⟨_,zd (zr (zj zE rfl B.tuple gG (ac (zh (tH rfl) rfl B.sorted gD (ac (zj (zO rfl) rfl B.set ia (ac
   (zD fR (zL u hr rfl am (ac (pv 0) (ac (pv 2) al))) (zL u hr rfl am (ac (pv 1) (ac (pv 2) al)))) al)) al)) al))),?_⟩
  refine⟨_,rfl,_,rfl,d,a,ns,p,rfl,hd,q,ω,z,fun J H1 b O h1=>?_⟩;refine⟨_,rfl,_,rfl,e,a,ms,p,rfl,b _ _ he,b.tp q,ω,hm,fun M H2 i T h2=>?_⟩;have C:=b.trans i;refine⟨J,M,_,_,rfl,rfl,i _ _ h1,h2,zf (by simp;omega),fun L v=>?_⟩;have D:=C.trans (Same.new (o:=.lst ((p.map (nv ns)).map V.int++(p.map (nv ms)).map V.int)) v);refine⟨L,p.map (nv ns)++p.map (nv ms),rfl,SqL.of (by rw[ai,Am]),by simp;omega,fun S x=>?_⟩;have G:=D.trans (Same.new (o:=cQ P w S (dd (p.map (nv ns)++p.map (nv ms)))) x);refine⟨S,_,rfl,ai,fun N j c y g=>?_⟩;have r:=G.trans (Same.new (o:=.lst (j.map V.int)) g);refine⟨N,_,rfl,.inl ⟨SqL.of ai,fun t l=>?_⟩⟩;have I:=r.trans (Same.new (o:=.tup (j.map V.int)) l);obtain rfl:=Hy c y;exact k t _ I (r.free l) ai
def pN(K:Ae)(fM:Addr):Sp:=fun vs H Q E=>∃l o m as bs pss af ns,vs=[.ref l,.ref o,.ref m]/\WM K H l o m as bs pss af ns/\((c9 ns (canon pss) (canon af)=true/\∀H',Same H H'->Q .non H')\/(c9 ns (canon pss) (canon af)=false/\∀H',Same H H'->∀x,H' x=none->E (.ref x) (some fM) H'))
def Ou(F:Fun K "must_be_map" "must_be_map" CF f fd)(j:mg "NoMap"=some (.ref fM))(p:QX K fM)(q:Cl P w K mg base aw "is_map" ["web","other","names"] 9 (G5 K)):FnOk P w K mg base (dU P w) 10 f fd ["web","other","names"] (pN K fM):=by
 refine F.ok1 No (fun vs H Q E h=>?_) (fun cdv A outer s H vs Q E hr h=>?_)
 ·obtain⟨l,o,m,as,bs,pss,af,ns,rfl,_⟩:=h;rfl
 ·obtain⟨l,o,m,as,bs,pss,af,ns,rfl,i,h⟩:=h
  refine⟨_,zd (zN (eL (fg (zL q hr rfl am (ac (pv 0) (ac (pv 1) (ac (pv 2) al)))))) (zd (Hv (C:=fM) (EX:=E) rfl rfl j p (fun aa σ H' s' x I hx d hs g=>CS I hx d hs (fun a e=>nomatch e) g))) zv),?_⟩;refine⟨_,rfl,_,rfl,_,rfl,l,o,m,as,bs,pss,af,ns,rfl,i,fun H1 c=>⟨_,rfl,?_⟩⟩;rcases h with ⟨b,k⟩|⟨b,k⟩
  ·rw[b];exact aH (k H1 c)
  ·rw[b];exact aX fun x hx=>k H1 c x hx
structure W4(K:Ae)(H:Hp)(l o m e:Addr)(as bs:List Addr)(pss af:Ξ)(ns ms:List (Int×Int)):Prop where
 wm:WM K H l o m as bs pss af ns
 he:H e=some (zV ms)
 hd:ms.map (·.1)=dots (canon pss)
def W4.same{H H':Hp}{l o m e:Addr}{as bs:List Addr}{pss af:Ξ}{ns ms:List (Int×Int)}(h:W4 K H l o m e as bs pss af ns ms)(s:Same H H'):W4 K H' l o m e as bs pss af ns ms:=⟨h.wm.same s,s _ _ h.he,h.hd⟩
def W4.two{H:Hp}{l o m e:Addr}{as bs:List Addr}{pss af:Ξ}{ns ms:List (Int×Int)}(h:W4 K H l o m e as bs pss af ns ms):WM K H l o e as bs pss af ms:=⟨h.wm.hl,h.wm.ha,h.wm.hw,h.wm.ho,h.wm.hb,h.wm.hv,h.he,h.hd⟩
abbrev zbQ(ns ms:List (Int×Int))(pss af:Ξ):Bool:=c9 ns (canon pss) (canon af)&&c9 ms (canon pss) (canon af)
def C3(K:Ae)(fM:Addr):Sp:=fun vs H Q E=>∃l o m e as bs pss af ns ms,vs=[.ref l,.ref o,.ref m,.ref e]/\W4 K H l o m e as bs pss af ns ms/\((zbQ ns ms pss af=true/\∀H',Same H H'->Q (.bl (besM ns ms (canon pss) (canon af))) H')\/(zbQ ns ms pss af=false/\∀H',Same H H'->∀x,H' x=none->E (.ref x) (some fM) H'))
abbrev HA:List Str:=["web","other","one","two","there"]
def HG:zn HA ["web","other","one","two"] (zb iY):=⟨rfl,rfl,rfl,δ,rfl,δ,δ⟩
def Ov{ns ms:List (Int×Int)}{a there:Ξ}:((a.map fun p=>decide (eK ns ms p∈there)).all id)=besM ns ms a there:=by unfold besM;rw[List.all_map];rfl
def Ow(F:Fun K "beside" "beside" iY f fd)(B:Bt mg)(S:Cl P w K mg base (dU P w) "must_be_map" ["web","other","names"] 10 (pN K fM))(T:Cl P w K mg base aw "pieces" ["web"] 8 (sN K))(Cb:Cl P w K mg base aw "both_images" ["one","two","piece"] 2 Hz):FnOk P w K mg base (dU P w) 11 f fd ["web","other","one","two"] (C3 K fM):=by
 refine F.ok1 HG (fun vs H Q E h=>?_) (fun cdv A outer s H vs Q E hr h=>?_)
 ·obtain⟨l,o,m,e,as,bs,pss,af,ns,ms,rfl,_⟩:=h;rfl
 ·obtain⟨l,o,m,e,as,bs,pss,af,ns,ms,rfl,b,h⟩:=h
  have av:=hr.units;refine⟨_,za (fE (zL S hr rfl (g_ (E:=E)) (ac (pv 0) (ac (pv 1) (ac (pv 2) al)))))
   (za (fE (zL S hr rfl (g_ (E:=E)) (ac (pv 0) (ac (pv 1) (ac (pv 3) al)))))
   (za (zp (i:=4) HG.nd rfl (Or.inr rfl) (zL T hr rfl am (ac (pv 1) al)))
   (zd (zr (zh (jX rfl) rfl B.all j' (ac
    (zw HA ["piece","one","two","there"] [none,some 2,some 3,some 4] (zA (zL T hr rfl am (ac (pv 0) al))) (fun y C s₀ H₀ ex=>zk (i:=0) (bR ["piece","one","two","there"]) rfl (Or.inl rfl)) (fun y C s₀ H₀ ex=>zH)
     (fun y C s₀ H₀ ex=>hG (r:=gi false K) (ya (in1_units av)) (zL Cb hr rfl am (ac (pv 1) (ac (pv 2) (ac (pv 0) al)))) (pv 3) (by with_unfolding_all rfl)) (hfr:=bO (zb iY) δ)) al)))))),?_⟩
  refine⟨_,rfl,_,rfl,_,rfl,l,o,m,as,bs,pss,af,ns,rfl,b.wm,?_⟩;cases hN:c9 ns (canon pss) (canon af) with
  |false=>
   rcases h with ⟨a,k⟩|⟨a,k⟩
   ·unfold zbQ at a;rw[hN] at a;exact absurd a (by simp)
   ·exact .inr ⟨rfl,k⟩
  |true=>
   refine .inl ⟨rfl,fun H1 j=>?_⟩;have L:=b.same j;refine⟨_,rfl,_,rfl,_,rfl,l,o,e,as,bs,pss,af,ms,rfl,L.two,?_⟩;rcases h with ⟨a,k⟩|⟨a,k⟩
   ·unfold zbQ at a
    rw[hN,Bool.true_and] at a;refine .inl ⟨a,fun H2 z=>?_⟩;have w2:=L.same z;refine⟨_,rfl,o,bs,af,rfl,w2.wm.ho,w2.wm.hb,w2.wm.hv,fun TH H3 ts G i9 U W=>?_⟩;have d:=w2.same G;refine⟨_,rfl,l,as,pss,rfl,d.wm.hl,d.wm.ha,d.wm.hw,fun KN H4 ks v rB I X=>?_⟩;have M:=d.same v;have hz:=b.wm.hw.2;refine⟨KN,rfl,⟨_,SqL.of I⟩,fun D Y=>zy (CI (g:=fun p=>decide (eK ns ms p∈canon af)) (SqL.of I) X ω (fun t p O Q' hp Z c q=>?_) Y fun O c h5=>⟨D,_,rfl,SqL.of h5,?_⟩)⟩
    ·refine⟨_,rfl,_,rfl,_,rfl,m,e,t,ns,ms,p,rfl,c _ _ M.wm.hm,c _ _ M.he,Z,(dS b.wm.hw.1 p hp).1,fun x hx=>by rw[b.wm.hd];exact gS hp hx,fun x hx=>by rw[b.hd];exact gS hp hx,fun u H6 J p7 eZ=>?_⟩
     have N:=(v.trans c).trans J;refine⟨_,rfl,u,TH,_,ts,canon af,rfl,rfl,eZ,SqL.of (N _ _ U),N.tps W,?_⟩;rw[if_neg ξ];exact q H6 J
    ·rw[Ov]
     exact k O (((j.trans z).trans (G.trans v)).trans c)
   ·unfold zbQ at a
    rw[hN,Bool.true_and] at a;exact .inr ⟨a,fun H' s'=>k H' (j.trans s')⟩
def Ox{j:Nat}{n:Int}{σ:St}{H:Hp}{R:VK}{i:Nat}(a:σ[i]?=some (some (.int n)))(h:R (.int (sg j n)) H):if decide (V.int ((j:Int)%2)=V.int 0)=true then ax i σ H R else Dl (rU fun i=>.int (-i)) (ax i) σ H R:=by
 unfold sg at h
 by_cases hk:(j:Int)%2=0
 ·rw[decide_eq_true (congrArg V.int hk)]
  rw[if_pos hk] at h;exact aX ⟨_,a,h⟩
 ·rw[decide_eq_false (fun z=>hk (by injection z))]
  rw[if_neg hk] at h;exact aH ⟨_,a,_,rfl,h⟩
def pP:Sp:=fun vs H Q _=>∃a b xs ys n,vs=[.ref a,.ref b,.int n]/\H a=some (.lst (xs.map V.int))/\H b=some (.lst (ys.map V.int))/\xs.length<=5/\ys.length=xs.length/\
 ∀D H'(ts:List Addr),Same H H'->H D=none->H' D=some (.lst (ts.map V.ref))->Prs H' ts (fV xs ys n xs.length)->Q (.ref D) H'
abbrev Oy:List Str:=["first","second","weight","terms","k"]
def kz:zn Oy ["first","second","weight"] (zb C0):=⟨rfl,rfl,rfl,δ,rfl,δ,δ⟩
def Oz(F:Fun K "prism_terms" "prism_terms" C0 f fd)(B:Bt mg)(W:Cl P w K mg base aw "risen_terms" ["some","weight"] 3 G0):FnOk P w K mg base aw 4 f fd ["first","second","weight"] pP:=by
 refine F.ok kz (fun vs H Q E h=>?_) (fun cdv A outer s H vs Q E hr h=>?_)
 ·obtain⟨a,b,xs,ys,n,rfl,_⟩:=h;rfl
 ·obtain⟨a,b,xs,ys,n,rfl,u,hb,hz,hy,k⟩:=h
  refine⟨_,za (zp (i:=3) kz.nd rfl (Or.inl rfl) (zQ al))
   (za (zZ AU rfl (kL rfl B.range (ac (zh zi rfl B.len zM (ac (pv 0) al)) al)) (zk (i:=4) kz.nd rfl (Or.inl rfl))
    (zd (fE (iE PySem.F.plainAttrs_list PySem.F.slot_list_extend PySem.F.type_list_extend DK (pv 3) (ac (zL W hr rfl am (ac
     (zD fR (jT qR (pv 0) jR (jS (zD dY (pv 4) ze))) (jT qR (pv 1) (jS (pv 4)) jR)) (ac (vx (zo c_ (zD gb (pv 4) ze) ze (aq _)) (pv 2) (qq qz (pv 2))) al))) al)))))
   (zd (zr (pv 3)))),?_⟩
  refine⟨zf (by simp),fun L l=>?_⟩;have v:=Same.new (o:=.lst []) l;refine⟨_,rfl,a,_,rfl,.inl (SqL.of (v _ _ u)),_,rfl,by rw[Ab];omega,by rw[Ab];omega,?_⟩;rw[Ab];refine mW (lo:=0) (n:=((xs.length:Int)).toNat) (fun j σ H2=>∃(p:Option V)(ts:List Addr),σ=[some (.ref a),some (.ref b),some (.int n),some (.ref L),p]/\Same H H2/\H2 L=some (.lst (ts.map V.ref))/\Prs H2 ts (fV xs ys n j)) ⟨none,[],rfl,v,ai,.nil⟩ ?_ ?_
  ·rintro j σ H2 Y ⟨p,ts,rfl,c,d,e⟩
   have I:j<xs.length:=ω
   rw[show(0:Int)+(j:Int)=(j:Int) from ω];refine⟨_,rfl,.inl ⟨rfl,_,SqL.of d⟩,_,rfl,_,rfl,_,_,rfl,rfl,_,rfl,a,_,rfl,SqL.of (c _ _ u),fun p1 q=>?_⟩;have J:br (xs.map V.int) none (some ((j:Int)+1))=(xs.take (j+1)).map V.int:=by rw[show(j:Int)+1=((j+1:Nat):Int) from ω,ph _ _ (by rw[Ab];omega),List.map_take]
   have M:br (ys.map V.int) (some (j:Int)) none=(ys.drop j).map V.int:=by rw[ki _ _ (by rw[Ab];omega),List.map_drop]
   rw[J];have N:=c.trans (Same.new (o:=.lst ((xs.take (j+1)).map V.int)) q);refine⟨_,rfl,_,rfl,_,rfl,b,_,rfl,SqL.of (N _ _ hb),fun p2 y=>?_⟩;rw[M];have x:=Same.new (o:=.lst ((ys.drop j).map V.int)) y;refine⟨p1,p2,_,_,rfl,rfl,x _ _ ai,ai,zf (by simp;omega),fun p3 C=>?_⟩;have O:=Same.new (o:=.lst ((xs.take (j+1)).map V.int++(ys.drop j).map V.int)) C;have S:=((Same.new (o:=.lst ((xs.take (j+1)).map V.int)) q).trans x).trans O;refine⟨_,rfl,_,_,rfl,rfl,(by show(0:Int)<2;decide),rfl,_,rfl,?_⟩;refine Ox rfl ⟨p3,xs.take (j+1)++ys.drop j,sg j n,rfl,by rw[ai,Am],by simp;omega,fun U H5 us D X G r=>?_⟩;have g:=S.trans D;have T:=e.length;have Z:=r.length;have h1:=pM xs ys n j;have h2:=GZ (xs.take (j+1)++ys.drop j) (sg j n);refine⟨L,U,_,_,rfl,rfl,g _ _ d,G,by rw[Ab,Ab];exact zf ω,⟨_,ts++us,rfl,(c.trans g).then l,by rw[ai,Am],?_⟩⟩;rw[C1];exact Prs.upd ((e.same g).append r) (g _ _ d) (by intro xs z;cases z)
  ·rintro σ H2 ⟨p,ts,rfl,c,d,e⟩
   rw[show((xs.length:Int)).toNat=xs.length from ω] at e;exact⟨_,rfl,k L H2 ts c l d e⟩
abbrev i3(ns ms:List (Int×Int))(pss af:Ξ):Bool:=zbQ ns ms pss af&&besM ns ms (canon pss) (canon af)
def pX(K:Ae)(fM:Addr):Sp:=fun vs H Q E=>∃l o m e d as bs pss af ns ms cs,vs=[.ref l,.ref o,.ref m,.ref e,.ref d]/\W4 K H l o m e as bs pss af ns ms/\WC H l d as pss cs/\(∀c∈cs,c.1∈canon pss)/\
 ((i3 ns ms pss af=true/\∀D H',zx d H H'->Rd H' d (.dT (aK cs))->H D=none->H' D=some (.dT (aK (du (dA ns ms cs))))->Q (.ref D) H')\/(i3 ns ms pss af=false/\∀H',Same H H'->∀x,H' x=none->E (.ref x) (some fM) H'))
abbrev C4:List Str:=["web","other","one","two","chain","terms","piece"]
def kA:zn C4 ["web","other","one","two","chain"] (zb CZ):=⟨rfl,rfl,rfl,δ,rfl,δ,δ⟩
def OA(F:Fun K "prism" "prism" CZ f fd)(mM:mg "NoMap"=some (.ref fM))(qM:QX K fM)(Cb:Cl P w K mg base (dU P w) "beside" ["web","other","one","two"] 11 (C3 K fM))(Cc:Cl P w K mg base aw "must_be_chain" ["web","chain"] 10 (Gg K))(Ct:Cl P w K mg base aw "prism_terms" ["first","second","weight"] 4 pP)(Ca:Cl P w K mg base aw "names_along" ["names","piece"] 1 tT)(Cs:Cl P w K mg base aw "sum_of" ["terms"] 1 (Gr K)):FnOk P w K mg base (dU P w) 12 f fd ["web","other","one","two","chain"] (pX K fM):=by
 refine F.ok1 kA (fun vs H Q E h=>?_) (fun cdv A outer s H vs Q E hr h=>?_)
 ·obtain⟨l,o,m,e,d,as,bs,pss,af,ns,ms,cs,rfl,_⟩:=h;rfl
 ·obtain⟨l,o,m,e,d,as,bs,pss,af,ns,ms,cs,rfl,T,J,y,h⟩:=h
  have hu:=dr hr;refine⟨_,za (zN (eL (fg (zL Cb hr rfl (g_ (E:=E)) (ac (pv 0) (ac (pv 1) (ac (pv 2) (ac (pv 3) al))))))) (zd (Hv (C:=fM) (EX:=E) rfl rfl mM qM (fun aa σ H' s' x I hx h0 hs hE=>CS I hx h0 hs (fun a e=>nomatch e) hE))) zv)
   (za (fE (zL Cc hr rfl am (ac (pv 0) (ac (pv 4) al))))
   (za (zp (i:=5) kA.nd rfl (Or.inl rfl) (zQ al))
   (za (zZ PassesOwn.leaving rfl (F0 (pv 4)) (zk (i:=6) kA.nd rfl (Or.inl rfl))
    (zd (fE (iE PySem.F.plainAttrs_list PySem.F.slot_list_extend PySem.F.type_list_extend DK (pv 5) (ac (zL Ct hr rfl am (ac (zL Ca hr rfl am (ac (pv 2) (ac (pv 6) al))) (ac (zL Ca hr rfl am (ac (pv 3) (ac (pv 6) al))) (ac (eT hu (pv 4) (pv 6) (fun _ _=>rfl)) al)))) al)))))
   (zd (zr (zL Cs hr rfl am (ac (pv 5) al))))))),?_⟩
  refine⟨_,rfl,_,rfl,_,rfl,_,rfl,l,o,m,e,as,bs,pss,af,ns,ms,rfl,T,?_⟩;rcases h with ⟨M,k⟩|⟨M,k⟩
  ·obtain⟨h1,h2⟩:zbQ ns ms pss af=true/\besM ns ms (canon pss) (canon af)=true:=by unfold i3 at M;rwa [AN] at M
   refine .inl ⟨h1,fun H1 v=>⟨_,rfl,?_⟩⟩;rw[h2];have X:=J.same v;have lJ:=T.same v;have yL:=J.ln;have BK:=J.h59;have h5:∀c∈cs,c.1.length<=5:=fun c hc=>(dS T.wm.hw.1 _ (y c hc)).1;refine aH ⟨_,rfl,_,rfl,l,d,as,pss,cs,rfl,SqL.of X.hl,X.ht,J.hw,ω,X.hd,ω,ω,J.hc,fun H2 Z oN=>?_⟩;have pT:m≠d:=pl X.hd lJ.wm.hm (by intro k z;cases z) (by intro q k z;cases z);have pJ:e≠d:=pl X.hd lJ.he (by intro k z;cases z) (by intro q k z;cases z);have fF:=Z _ _ pT lJ.wm.hm;have wH:=Z _ _ pJ lJ.he;refine⟨zf (by simp),fun L S=>?_⟩;have qN:d≠L:=by
    rcases oN with r|⟨_,r⟩
    ·exact zg r S
    ·exact zg r S
   refine⟨_,rfl,d,aK cs,rfl,oN.same (Same.new S),fun oo H3 fB bK=>F5 (fun i σ G=>∃(v6:Option V)(ts:List Addr),σ=[some (.ref l),some (.ref o),some (.ref m),some (.ref e),some (.ref d),some (.ref L),v6]/\zx d H2 G/\G d=some (.frz oo (.dT (aK cs)))/\G L=some (.lst (ts.map V.ref))/\Prs G ts (dA ns ms (cs.take i)))
    ⟨none,[],rfl,fun b u hb e=>by rw[bK b hb,zl (zg e S)];exact e,fB,by rw[bK L (Ne.symm qN)];exact ai,.nil⟩ (fun i σ G _ ⟨_,_,_,_,h,_⟩=>h) ?_ ?_⟩
   ·rintro i kv b σ G fI hb ⟨v6,ts,rfl,N,U,W,O⟩
    obtain⟨c,ec,rfl⟩:=ME fI;have j:=Ap ec;have jp:=h5 c j;refine⟨_,rfl,.inl ⟨rfl,_,SqL.of W⟩,_,rfl,_,rfl,m,b,ns,c.1,rfl,N _ _ pT fF,Gv hb,ω,fun x hx=>by rw[T.wm.hd];exact gS (y c j) hx,fun D1 Ha v kP h1=>?_⟩;refine⟨_,rfl,_,rfl,e,b,ms,c.1,rfl,v _ _ (N _ _ pJ wH),v.tp (Gv hb),ω,fun x hx=>by rw[T.hd];exact gS (y c j) hx,fun D2 Hb s2 aE h2=>?_⟩;have ky:=v.trans s2;have g:DGet Hb d (.ref b) (some (.int c.2)):=.inr ⟨aK cs,c.1.map Sum.inl,b,.inr ⟨oo,ky _ _ U⟩,rfl,ky _ _ hb,(lG J.nd c j).symm⟩;refine⟨_,rfl,_,rfl,d,_,rfl,g,D1,D2,_,_,c.2,rfl,s2 _ _ h1,h2,by rw[Ab];omega,by rw[Ab,Ab],fun D5 H5 us dP oX cH gT=>?_⟩;rw[Ab] at gT;have Y:=ky.trans dP;have hlt:=O.length;have vz:=gT.length;have kH:=l9 (ns:=ns) (ms:=ms) (cs:=cs.take i) fun c hc=>h5 c (List.mem_of_mem_take hc);have yY:=pM (c.1.map (nv ns)) (c.1.map (nv ms)) c.2 c.1.length;rw[AG] at kH;refine⟨L,D5,_,_,rfl,rfl,Y _ _ W,cH,by rw[Ab,Ab];exact zf ω,⟨_,ts++us,rfl,(N.trans (zx.of Y)).thenD S,by rw[zl qN];exact Y _ _ U,by rw[ai,Am],?_⟩⟩;unfold dA at O ⊢;rw[Gx _ ec];exact Prs.upd ((O.same Y).append gT) (Y _ _ W) (by intro xs z;cases z)
   ·rintro σ G ⟨v6,ts,rfl,N,U,W,O⟩
    rw[iT,take_all] at O;have kH:=l9 (ns:=ns) (ms:=ms) h5;refine⟨_,rfl,L,ts,_,rfl,SqL.of W,O,ω,fun D H5 dP dC cH=>?_⟩;have kJ:=(zx.of v (p:=d)).trans (Z.trans (N.trans (zx.of dP)));exact k D H5 kJ (.inr ⟨oo,dP _ _ U⟩) (v.free (Z.freeD oN (N.freeD (.inr ⟨oo,U⟩) dC))) cH
  ·cases hB:zbQ ns ms pss af with
   |false=>exact .inr ⟨rfl,k⟩
   |true=>
    unfold i3 at M;rw[hB,Bool.true_and] at M;refine .inl ⟨rfl,fun H1 v=>⟨_,rfl,?_⟩⟩;rw[M];exact aX fun x hx=>k H1 v x hx
end
end K56
end
section
namespace L2
open PySem PySem.Spec PyProof.Rows
def p0{X:Cx}:zU X (.type "dict") (fun xs H Q=>∃a kvs,xs=[.ref a]/\Rd H a (.dK kvs)/\∀p,H p=none->Q (.ref p) (upd H p (.dK kvs))):=by
 intro aa s σ H xs us Q I r h;obtain⟨a,kvs,rfl,hq,q⟩:=h;obtain⟨u,rfl,b⟩:=vals1 r;cases b;exact Jl I hq fun p s' hp c=>⟨.ref p,_,c,rfl,q p hp⟩
end L2
namespace K56
open K1
open PySem L2 STb
abbrev p5:Stmt:=top 63
abbrev fv:Stmt:=top 64
abbrev i5:Stmt:=top 65
section
variable{P:Program}{w:World}{K:Ae}{mg:Str->Option Value}{base:Heap}{f fM:Addr}{fd:FuncData}
def C5(K:Ae):Sp:=fun vs H Q _=>∃KN TH m e ks ts ns ms a there,vs=[.ref KN,.ref TH,.ref m,.ref e]/\H KN=some (.lst (ks.map V.ref))/\Tps H ks a/\(∀p∈a,p.length<=5)/\H TH=some (.lst (ts.map V.ref))/\Tps H ts there/\H m=some (zV ns)/\H e=some (zV ms)/\(∀p∈a,∀x∈p,x∈ns.map (·.1))/\(∀p∈a,∀x∈p,x∈ms.map (·.1))/\
 ∀H',Same H H'->Q (.bl (besM ns ms a there)) H'
abbrev kB:List Str:=["known","there","one","two","piece","joint"]
def C6:zn kB ["known","there","one","two"] (zb p5):=⟨rfl,rfl,rfl,δ,rfl,δ,δ⟩
def OB(F:Fun K "_law_beside" "_law_beside" p5 f fd)(B:Bt mg):FnOk P w K mg base aw 1 f fd ["known","there","one","two"] (C5 K):=by
 refine F.ok C6 (fun vs H Q E h=>?_) (fun cdv A outer s H vs Q E hr h=>?_)
 ·obtain⟨KN,TH,m,e,ks,ts,ns,ms,l,there,rfl,_⟩:=h;rfl
 ·obtain⟨KN,TH,m,e,ks,ts,ns,ms,l,there,rfl,N,O,h5,hT,fW,hm,he,hn,fT,k⟩:=h
  have hu:=dr hr;have av:=hr.units;refine⟨_,za (zZ AU rfl (zA (pv 0)) (zk (i:=4) C6.nd rfl (Or.inl rfl))
   (za (zp (i:=5) C6.nd rfl (Or.inl rfl) (zD fR
    (zw kB ["point","one"] [none,some 2] (iq (pv 4)) (fun j C s₀ H₀ ex=>zk (i:=0) (bR ["point","one"]) rfl (Or.inl rfl)) (fun j C s₀ H₀ ex=>zH) (fun j C s₀ H₀ ex=>eT hu (pv 1) (pv 0) (fun _ _=>rfl)) (hfr:=bO (zb p5) δ))
    (zw kB ["point","two"] [none,some 3] (iq (pv 4)) (fun j C s₀ H₀ ex=>zk (i:=0) (bR ["point","two"]) rfl (Or.inl rfl)) (fun j C s₀ H₀ ex=>zH) (fun j C s₀ H₀ ex=>eT hu (pv 1) (pv 0) (fun _ _=>rfl)) (hfr:=bO (zb p5) δ))))
   (zd (zN (zo (Ev (in1_units av)) (zj zE rfl B.tuple gG (ac (zh (tH rfl) rfl B.sorted gD (ac (zj (zO rfl) rfl B.set ia (ac (pv 5) al)) al)) al)) (pv 1) (by with_unfolding_all rfl)) (zd (zr dc)) zv))))
   (zd (zr dc)),?_⟩
  refine⟨_,rfl,KN,rfl,⟨_,SqL.of N⟩,fG (K:=K) (a:=KN) (xs:=ks.map V.ref) (fun i σ H2=>∃(G I:Option V),σ=[some (.ref KN),some (.ref TH),some (.ref m),some (.ref e),G,I]/\Same H H2/\∀p∈l.take i,eK ns ms p∈there)
   ⟨none,none,rfl,Same.refl _,fun p hp=>by simp at hp⟩ (fun i σ H2 _ ⟨_,_,_,g,_⟩=>SqL.of (g _ _ N)) ?_ ?_⟩
  ·rintro i x σ H2 hx ⟨G,I,rfl,g,b⟩
   obtain⟨t,et,rfl⟩:=zR hx;obtain⟨p,ep,hp⟩:=O.get et;have c:=Ap ep;have hz:=h5 p c;refine⟨_,rfl,t,rfl,⟨_,SqT.of (g.tp hp)⟩,fun D1 T=>zy (lW (g.tp hp) (g _ _ hm) ω (hn p c) T fun H3 U W=>?_)⟩;have r:=g.trans U;refine⟨_,rfl,t,rfl,⟨_,SqT.of (r.tp hp)⟩,fun D2 X=>zy (lW (r.tp hp) (r _ _ he) ω (fT p c) X fun H4 J Y=>?_)⟩;refine⟨D1,D2,_,_,rfl,rfl,J _ _ W,Y,zf (by simp;omega),fun L Z=>?_⟩;have sL:=(r.trans J).trans (Same.new (o:=.lst ((p.map (nv ns)).map V.int++(p.map (nv ms)).map V.int)) Z);refine⟨_,rfl,L,p.map (nv ns)++p.map (nv ms),rfl,SqL.of (by rw[ai,Am]),by simp;omega,fun S hS=>?_⟩;have sS:=sL.trans (Same.new (o:=cQ P w S (dd (p.map (nv ns)++p.map (nv ms)))) hS);refine⟨S,_,rfl,ai,fun D3 M y mx D=>?_⟩;have s5:=sS.trans (Same.new (o:=.lst (M.map V.int)) D);refine⟨D3,_,rfl,.inl ⟨SqL.of ai,fun u d_=>?_⟩⟩;have v:=s5.trans (Same.new (o:=.tup (M.map V.int)) d_);obtain rfl:=Hy y mx;refine⟨_,rfl,u,TH,_,ts,there,rfl,rfl,ai,SqL.of (v _ _ hT),v.tps fW,_,rfl,?_⟩;rw[if_pos rfl]
   by_cases d:eK ns ms p∈there
   ·rw[decide_eq_true d]
    refine aH ⟨_,_,rfl,v,fun q hq=>?_⟩;rw[AM ep] at hq;rcases List.mem_append.mp hq with z|z
    ·exact b q z
    ·rw[List.mem_singleton.mp z];exact d
   ·rw[decide_eq_false d]
    have hf:besM ns ms l there=false:=by
     cases hb:besM ns ms l there with
     |false=>rfl
     |true=>exact absurd (of_decide_eq_true (List.all_eq_true.mp hb p c)) d
    have:=k _ v;rw[hf] at this;exact aX this
  ·rintro σ H2 ⟨G,I,rfl,g,b⟩
   rw[Ab,O.length,take_all] at b;have:=k H2 g;rw[show besM ns ms l there=true from List.all_eq_true.mpr fun p hp=>decide_eq_true (b p hp)] at this;exact this
def C7:Sp:=fun vs H Q _=>∃m e d ns ms cs,vs=[.ref m,.ref e,.ref d]/\H m=some (zV ns)/\H e=some (zV ms)/\Rd H d (.dT (aK cs))/\cs.length<=100/\(ksC cs).Nodup/\(∀c∈cs,c.1.length<=5)/\(∀c∈cs,∀x∈c.1,x∈ns.map (·.1))/\(∀c∈cs,∀x∈c.1,x∈ms.map (·.1))/\
 ∀D H',Same H H'->H D=none->H' D=some (.dT (aK (du (dA ns ms cs))))->Q (.ref D) H'
abbrev i6:List Str:=["one","two","chain","found","piece","k","row"]
def p6:zn i6 ["one","two","chain"] (zb fv):=⟨rfl,rfl,rfl,δ,rfl,δ,δ⟩
def OC(F:Fun K "_law_prism" "_law_prism" fv f fd)(B:Bt mg)(Cr:Cl P w K mg base aw "_law_rising" ["row","weight","found"] 1 G_):FnOk P w K mg base aw 2 f fd ["one","two","chain"] C7:=by
 refine F.ok p6 (fun vs H Q E h=>?_) (fun cdv A outer s H vs Q E hr h=>?_)
 ·obtain⟨m,e,d,ns,ms,cs,rfl,_⟩:=h;rfl
 ·obtain⟨m,e,d,ns,ms,cs,rfl,hm,he,hd,hz,cn,h5,hin,mK,k⟩:=h
  have hu:=dr hr;have av:=hr.units;refine⟨_,za (zp (i:=3) p6.nd rfl (Or.inr rfl) jV)
   (za (zZ AU rfl (zA (zj (r9 rfl) rfl B.list eY (ac (pv 2) al))) (zk (i:=4) p6.nd rfl (Or.inl rfl))
    (zd (zZ AU rfl (kL rfl B.range (ac (zh zi rfl B.len zM (ac (pv 4) al)) al)) (zk (i:=5) p6.nd rfl (Or.inl rfl))
     (za (zp (i:=6) p6.nd rfl (Or.inl rfl) (zD fR
      (zw i6 ["point","one"] [none,some 0] (iq (jT E7 (pv 4) jR (jS (zD dY (pv 5) ze)))) (fun r C s₀ H₀ ex=>zk (i:=0) (bR ["point","one"]) rfl (Or.inl rfl)) (fun r C s₀ H₀ ex=>zH) (fun r C s₀ H₀ ex=>eT hu (pv 1) (pv 0) (fun _ _=>rfl)) (hfr:=bO (zb fv) δ))
      (zw i6 ["point","two"] [none,some 1] (iq (jT E7 (pv 4) (jS (pv 5)) jR)) (fun r C s₀ H₀ ex=>zk (i:=0) (bR ["point","two"]) rfl (Or.inl rfl)) (fun r C s₀ H₀ ex=>zH) (fun r C s₀ H₀ ex=>eT hu (pv 1) (pv 0) (fun _ _=>rfl)) (hfr:=bO (zb fv) δ))))
     (zd (fE (zL Cr hr rfl am (ac (pv 6) (ac (zD f_ (eT hu (pv 2) (pv 4) (fun _ _=>rfl)) (zD kN ze (zD f_ (zD gb (pv 5) ze) ze))) (ac (pv 3) al))))))))))
   (zd (zr (zj (Co rfl av) rfl B.dict ig (ac
    (zw i6 ["piece","found"] [none,some 3] (zA (zj (r9 rfl) rfl B.list eY (ac (pv 3) al))) (fun r C s₀ H₀ ex=>zk (i:=0) (bR ["piece","found"]) rfl (Or.inl rfl))
     (fun r C s₀ H₀ ex=>gh (zo jQ (eT hu (pv 1) (pv 0) (fun _ _=>rfl)) ze (aq _))) (fun r C s₀ H₀ ex=>fQ (ac (pv 0) (ac (eT hu (pv 1) (pv 0) (fun _ _=>rfl)) al))) (hfr:=bO (zb fv) δ) (tc:=G7) (te:=G8)) al))))),?_⟩
  intro S hS;have sS:=Same.new (o:=.dT []) hS;refine⟨_,rfl,d,aK cs,rfl,hd.same sS,fun bs pb L hL=>?_⟩;have tb:=tw pb;have sL:=Same.new (o:=.lst (bs.map V.ref)) hL;have uS:S≠L:=zg (ai (H:=H) (a:=S) (o:=.dT [])) hL;have lK:=tb.length;rw[kh] at lK;refine⟨L,rfl,⟨_,SqL.of ai⟩,fG (K:=K) (a:=L) (xs:=bs.map V.ref) (fun i σ H2=>∃(v4 y G:Option V),σ=[some (.ref m),some (.ref e),some (.ref d),some (.ref S),v4,y,G]/\Same H H2/\H2 L=some (.lst (bs.map V.ref))/\Tps H2 bs (ksC cs)/\H2 S=some (.dT (aK (aZ (dA ns ms (cs.take i))))))
   ⟨none,none,none,rfl,sS.trans sL,ai,sL.tps tb,sL _ _ ai⟩ (fun i σ H2 _ ⟨_,_,_,_,_,h,_⟩=>SqL.of h) ?_ ?_⟩
  ·rintro i x σ H2 hx ⟨v4,y,G,rfl,sm,bV,nI,J⟩
   obtain⟨b,eb,rfl⟩:=zR hx;obtain⟨ps,N,aM⟩:=nI.get eb;unfold ksC at N;rw[Ai] at N;obtain⟨c,ec,rfl⟩:∃c,cs[i]?=some c/\c.1=ps:=by
    cases h:cs[i]? with
    |none=>rw[h] at N;cases N
    |some c=>rw[h] at N;exact⟨c,rfl,An N⟩
   have g:=Ap ec;have jp:=h5 c g;have hi:i<cs.length:=(List.getElem?_eq_some_iff.mp ec).1;refine⟨_,rfl,b,_,rfl,.inr (SqT.of aM),_,rfl,by rw[Ab];omega,by rw[Ab];omega,?_⟩;rw[Ab];refine mW (lo:=0) (n:=((c.1.length:Int)).toNat) (fun j σ I=>∃(y G:Option V),σ=[some (.ref m),some (.ref e),some (.ref d),some (.ref S),some (.ref b),y,G]/\Same H I/\I L=some (.lst (bs.map V.ref))/\Tps I bs (ksC cs)/\Tp I b c.1/\I S=some (.dT (aK (aZ (dA ns ms (cs.take i)++fV (c.1.map (nv ns)) (c.1.map (nv ms)) c.2 j)))))
    ⟨_,_,rfl,sm,bV,nI,aM,by rw[show fV (c.1.map (nv ns)) (c.1.map (nv ms)) c.2 0=[] from rfl,List.append_nil];exact J⟩ ?_ ?_
   ·rintro j σ I hj ⟨y,G,rfl,O,oq,jk,T,W⟩
    have hj':j<c.1.length:=ω
    rw[show(0:Int)+(j:Int)=(j:Int) from ω];refine⟨_,rfl,_,rfl,_,_,rfl,rfl,_,rfl,b,_,rfl,T,fun p1 H4 U fH=>?_⟩;rw[show(j:Int)+1=((j+1:Nat):Int) from ω,ph _ _ (by rw[Ab];omega),<-List.map_take] at fH;have ko:Tp H4 p1 (c.1.take (j+1)):=fH;have cy:=O.trans U;refine⟨p1,rfl,⟨_,SqT.of ko⟩,fun D1 kP=>zy (lW ko (cy _ _ hm) (by rw[AG];omega) (fun x hx=>hin c g x (List.mem_of_mem_take hx)) kP fun H5 s5 Y=>?_)⟩;have p8:=U.trans s5;refine⟨_,rfl,_,rfl,_,rfl,b,_,rfl,p8 _ _ T,fun p2 H6 s6 bB=>?_⟩;rw[ki _ _ (by rw[Ab];omega),<-List.map_drop] at bB;have gm:Tp H6 p2 (c.1.drop j):=bB;have pE:=p8.trans s6;refine⟨p2,rfl,⟨_,SqT.of gm⟩,fun D2 aE=>zy (lW gm (pE _ _ (O _ _ he)) (by rw[List.length_drop];omega) (fun x hx=>mK c g x (List.mem_of_mem_drop hx)) aE fun H7 s7 h7=>?_)⟩;refine⟨D1,D2,_,_,rfl,rfl,s7 _ _ (s6 _ _ Y),h7,zf (by simp;omega),fun R hR=>?_⟩;have v:=(pE.trans s7).trans (Same.new (o:=.lst (((c.1.take (j+1)).map (nv ns)).map V.int++((c.1.drop j).map (nv ms)).map V.int)) hR);have mf:=v _ _ W;have x0:((c.1.map (nv ns)).take (j+1)++(c.1.map (nv ms)).drop j).length<=10:=by rw[As,AG,List.length_drop,Ab,Ab];omega
    have hpl:=l9 (ns:=ns) (ms:=ms) (cs:=cs.take i) fun c hc=>h5 c (List.mem_of_mem_take hc);rw[AG] at hpl;have cR:=pM (c.1.map (nv ns)) (c.1.map (nv ms)) c.2 j;have fJ:=pk (dA ns ms (cs.take i)++fV (c.1.map (nv ns)) (c.1.map (nv ms)) c.2 j);rw[As] at fJ;refine⟨_,rfl,_,rfl,_,rfl,d,.int c.2,rfl,.inr ⟨aK cs,c.1.map Sum.inl,b,hd.same (O.trans v),rfl,tz (v.tp T),(lG cn c g).symm⟩,_,rfl,_,_,rfl,rfl,(by show(0:Int)<2;decide),_,_,rfl,rfl,.inr ⟨ξ,ξ⟩,_,_,rfl,rfl,_,_,rfl,rfl,.inr ⟨?_,?_⟩,_,rfl,R,S,(c.1.map (nv ns)).take (j+1)++(c.1.map (nv ms)).drop j,sg j c.2,_,?_,?_,x0,mf,ω,fun H9 X xu=>?_⟩
    ·show -(18446744073709551616:Int)<1-(j:Int)%2*2
     omega
    ·show 1-(j:Int)%2*2<(18446744073709551616:Int)
     omega
    ·show [V.ref R,V.int (c.2*(1-(j:Int)%2*2)),V.ref S]=_
     rw[Ny]
    ·rw[ai,Am,List.map_take,List.map_drop]
    ·refine⟨_,_,rfl,fun a u ea=>X _ _ (zg ea hS) ((O.trans v) _ _ ea),X _ _ (Ne.symm uS) (v _ _ oq),Paired.mapP (v.tps jk) fun t q ht=>X _ _ (a0 (show _=some _ from ht) mf (by intro z;cases z)) ht,X _ _ (a0 (show _=some _ from v.tp T) mf (by intro z;cases z)) (v.tp T),?_⟩
     rw[xu,C1,<-List.append_assoc,NA (dA ns ms (cs.take i)++fV (c.1.map (nv ns)) (c.1.map (nv ms)) c.2 j)]
   ·rintro σ I ⟨y,G,rfl,O,oq,jk,T,W⟩
    refine⟨_,_,_,rfl,O,oq,jk,?_⟩;rw[show((c.1.length:Int)).toNat=c.1.length from ω] at W;unfold dA at W ⊢;rw[Gx _ ec];exact W
  ·rintro σ H2 ⟨v4,y,G,rfl,sm,bV,nI,J⟩
   rw[Ab,lK,take_all] at J;unfold du at k;have hn:=CA (dA ns ms cs);have fJ:=pk (dA ns ms cs);have kH:=l9 (ns:=ns) (ms:=ms) h5;generalize aZ (dA ns ms cs)=ss at J hn fJ k;refine⟨_,rfl,S,aK ss,rfl,.inl J,fun es pe M Z=>⟨M,rfl,⟨_,SqL.of ai⟩,fun D hD=>zy (ND ai ((Same.new Z).tps (tw pe)) (Same.new Z _ _ J) hn ω hD fun H4 ts cf a7 eM=>?_)⟩⟩;refine⟨D,ts,aK (ss.filter dw),rfl,SqL.of a7,NE eM,fun R hR=>?_⟩;rw[MC,Nx _ (hn.sublist ((List.filter_sublist (p:=dw) (l:=ss)).map _))];have U:=(sm.trans (Same.new Z)).trans cf;exact k R _ (U.trans (Same.new hR)) (U.free hR) ai
end
end K56
end
section
namespace K56
open K1
open PySem L2 STb
def OD(os:List Int):(os.map V.int).all eE=true:=by
 rw[List.all_map,List.all_eq_true];exact fun _ _=>rfl
abbrev HH(K:Ae):TT:=mu (hU (cb nh (eQ (F' K) (zJ (ax 0) a8)) (tC (.int 2)))) (hU (cb (wE K false) (nF (ax 1) (ax 2)) (ax 0)))
section
variable{P:Program}{w:World}{K:Ae}{mg:Str->Option Value}{base:Heap}{f fM:Addr}{fd:FuncData}
def OE{H2:Hp}{TH D m:Addr}{ts:List Addr}{there:Ξ}{ns:List (Int×Int)}{x:Int}{Q:VK}(hT:H2 TH=some (.lst (ts.map V.ref)))(l:Tps H2 ts there)(hz:there.length<=1000)(hm:H2 m=some (zV ns))(hx:x∈ns.map (·.1))(o:H2 D=none)(k:∀a as b,Same H2 a->a D=some (.lst (as.map V.ref))->Tps a as b->(∀q∈b,q.length=2)->as.length<=there.length->Q (.ref D) a):cG (dv K TH) (cA 0) (HH K) (ax 0) [none,some (.ref m),some (.int x)] H2 D Q:=by
 have u:=l.length;refine zG (xs:=ts.map V.ref) (fun j σ ys a=>∃(v:Option V)(as:List Addr)(b:Ξ),σ=[v,some (.ref m),some (.int x)]/\Same H2 a/\a D=some (.lst ys)/\ys=as.map V.ref/\Tps a as b/\(∀q∈b,q.length=2)/\as.length<=j) ?_ ?_ ?_ ?_
 ·exact⟨none,[],[],rfl,Same.new o,ai,rfl,.nil,(fun q hq=>nomatch hq),Ag _⟩
 ·rintro j σ ys a ⟨v,as,b,rfl,d,c,rfl,hq,h2,e⟩
  exact SqL.of (d _ _ hT)
 ·rintro j σ ys a y hy g i ⟨v,as,b,rfl,d,c,rfl,hq,h2,e⟩
  obtain⟨t,s,rfl⟩:=zR hy;obtain⟨p,ep,hp⟩:=l.get s;have f:=d.tp hp;have hsz:(ts.map V.ref).length<=sizeLine:=by rw[Ab];exact zf ω
  have skip:cv (ts.map V.ref).length (fun j σ ys a=>∃(v:Option V)(as:List Addr)(b:Ξ),σ=[v,some (.ref m),some (.int x)]/\Same H2 a/\a D=some (.lst ys)/\ys=as.map V.ref/\Tps a as b/\(∀q∈b,q.length=2)/\as.length<=j) j [some (.ref t),some (.ref m),some (.int x)] a:=cS g i ⟨_,as,b,rfl,d,c,rfl,hq,h2,ω⟩;refine⟨_,rfl,t,_,rfl,.inr (SqT.of f),rfl,_,rfl,?_⟩;rw[show(p.map V.int).length=p.length from Ab _]
  by_cases h:p.length=2
  ·rw[decide_eq_true (show V.int (p.length:Int)=V.int 2 by rw[h];rfl)]
   refine aX ⟨_,rfl,_,rfl,m,.int (nv ns x),rfl,GP (.inl (d _ _ hm)) hx,_,rfl,t,_,rfl,.inr (SqT.of f),rfl,OD p,_,rfl,bc (fun _=>?_) fun _=>skip⟩;refine⟨_,rfl,a9 hsz g i c ⟨_,as++[t],b++[p],rfl,d.then o,ai,by rw[Am];rfl,?_,?_,by rw[As];simp;omega⟩⟩
   ·exact Tps.upd (hq.snoc f) c (by intro xs z;cases z)
   ·intro q r
    rcases List.mem_append.mp r with z|z
    ·exact h2 q z
    ·rw[List.mem_singleton.mp z];exact h
  ·rw[decide_eq_false (fun z=>h (by injection z with z;omega))]
   exact aH (aH skip)
 ·rintro σ ys a ⟨v,as,b,rfl,d,c,rfl,hq,h2,e⟩
  rw[Ab,u] at e;exact k a as b d c hq h2 e
def HI:Sp:=fun vs H Q _=>∃p TH m ts there ns,vs=[.ref p,.ref TH,.ref m]/\zK H p/\H TH=some (.lst (ts.map V.ref))/\Tps H ts there/\there.length<=1000/\H m=some (zV ns)/\ns.length<=1000/\
 ∀D ms H',zx p H H'->zK H' p->H D=none->H' D=some (zV ms)->ms.map (·.1)=ns.map (·.1)->Q (.ref D) H'
abbrev HJ:List Str:=["box","there","one","two","point","near"]
def uR:zn HJ ["box","there","one"] (zb i5):=⟨rfl,rfl,rfl,δ,rfl,δ,δ⟩
def at2{q:List Int}(h:q.length=2){r:Int}(b:0<=r)(c:r<2):∃y,atI (q.map V.int) r=some (.int y):=by
 obtain⟨n,rfl⟩:=Int.eq_ofNat_of_zero_le b;obtain⟨y,a⟩:∃y,q[n]?=some y:=⟨q[n]'ω,Af _⟩;exact⟨y,zu (by rw[Ai,a];rfl)⟩
def OF(F:Fun K "_law_second" "_law_second" i5 f fd)(B:Bt mg)(Ct:Cl P w K mg base aw "_law_take" ["box","most"] 1 kg):FnOk P w K mg base aw 2 f fd ["box","there","one"] HI:=by
 refine F.ok uR (fun vs H Q E h=>?_) (fun cdv A outer s H vs Q E hr h=>?_)
 ·obtain⟨p,TH,m,ts,there,ns,rfl,_⟩:=h;rfl
 ·obtain⟨p,TH,m,ts,there,ns,rfl,hb,hT,fW,hz,hm,yS,k⟩:=h
  have hu:=dr hr;refine⟨_,za (zp (i:=3) uR.nd rfl (Or.inl rfl) (zj p0 rfl B.dict ig (ac (pv 2) al)))
   (za (zZ AU rfl (zA (zj (x8 rfl) rfl B.list eY (ac (pv 3) al))) (zk (i:=4) uR.nd rfl (Or.inr rfl))
    (za (ux (i:=5) uR.nd rfl (Or.inl rfl) HJ ["piece","one","point"] [none,some 2,some 4] (zA (pv 1)) (fun cl C s₀ H₀ ex=>zk (i:=0) (bR ["piece","one","point"]) rfl (Or.inl rfl))
     (fun cl C s₀ H₀ ex=>gh (PW.pt (mC (zo c_ (zh zi rfl B.len zM (ac (pv 0) al)) ze (aq _)) (mv (zo (r:=wE K false) IW (eT hu (pv 1) (pv 2) (fun _ _=>rfl)) (pv 0) (by with_unfolding_all rfl)))))) (fun cl C s₀ H₀ ex=>pv 0) (hfr:=bO (zb i5) δ) (tc:=HH K))
    (zd (zN (PW.pt (mC (zo ix (zh zi rfl B.len zM (ac (pv 5) al)) ze (aq _)) (mv (zo c_ (zL Ct hr rfl am (ac (pv 0) (ac ze al))) ze (aq _)))))
     (zd (hV hu (pv 3) (pv 4) (zI eR (zI zC (pv 5) (zL Ct hr rfl am (ac (pv 0) (ac (zh zi rfl B.len zM (ac (pv 5) al)) al))) (fun _ _=>rfl)) (zL Ct hr rfl am (ac (pv 0) (ac ze al))) (fun _ _=>rfl)) rfl)) zv))))
   (zd (zr (pv 3)))),?_⟩
  refine⟨_,rfl,m,_,rfl,.inl hm,fun T J=>?_⟩;have sT:=Same.new (o:=zV ns) J;refine⟨_,rfl,T,_,rfl,ai,fun L S=>?_⟩;have ev:((kZ ns).map fun kv=>kV kv.1)=(ns.map (·.1)).map V.int:=by rw[At,At,At];rfl
  rw[ev];have sL:=Same.new (o:=.lst ((ns.map (·.1)).map V.int)) S;have s0:=sT.trans sL;have j5:T≠L:=zg (ai (H:=H) (a:=T) (o:=zV ns)) S;have Y:T≠p:=by obtain⟨x,y,e,_⟩:=hb;exact(zg e J).symm
  have G:L≠p:=by obtain⟨x,y,e,_⟩:=hb.same sT;exact(zg e S).symm
  refine⟨L,rfl,⟨_,SqL.of ai⟩,fG (K:=K) (a:=L) (xs:=(ns.map (·.1)).map V.int) (fun i σ H2=>∃(j u:Option V)(ms:List (Int×Int)),σ=[some (.ref p),some (.ref TH),some (.ref m),some (.ref T),j,u]/\zx p H H2/\zK H2 p/\H2 L=some (.lst ((ns.map (·.1)).map V.int))/\H2 T=some (zV ms)/\ms.map (·.1)=ns.map (·.1))
   ⟨none,none,ns,rfl,zx.of s0,hb.same s0,ai,sL _ _ ai,rfl⟩ (fun i σ H2 _ ⟨_,_,_,_,_,_,h,_⟩=>SqL.of h) ?_ ?_⟩
  ·rintro i y σ H2 hy ⟨j,u,ms,rfl,g,X,M,v,hk⟩
   obtain⟨x,ex,rfl⟩:=ii hy;have lV:=Ap ex;have kj:=g _ _ (hb.ne hT) hT;have iw:=g.tps hb fW;have fF:=g _ _ (iW hb hm) hm;refine⟨_,rfl,TH,rfl,⟨_,SqL.of kj⟩,fun D hD=>zy (OE kj iw hz fF lV hD fun O as qs b c hq h2 yJ=>?_)⟩;have Z:=g.trans (zx.of b);have N:=X.same b;have I:D≠p:=N.ne c;have keep:∃(j u:Option V)(ms:List (Int×Int)),[some (.ref p),some (.ref TH),some (.ref m),some (.ref T),some (.int x),some (.ref D)]=[some (.ref p),some (.ref TH),some (.ref m),some (.ref T),j,u]/\zx p H O/\zK O p/\O L=some (.lst ((ns.map (·.1)).map V.int))/\O T=some (zV ms)/\ms.map (·.1)=ns.map (·.1):=⟨_,_,ms,rfl,Z,N,b _ _ M,b _ _ v,hk⟩;refine⟨_,rfl,D,_,rfl,.inl (SqL.of c),_,_,rfl,rfl,_,rfl,?_⟩;rw[Ab]
   by_cases h0:(0:Int)<(as.length:Int)
   ·rw[decide_eq_true h0]
    refine aX ⟨_,rfl,p,3,rfl,N,ξ,ξ,fun r4 H4 _ _ d U=>⟨rfl,_,rfl,bc (fun _=>?_) fun _=>?_⟩⟩
    ·have a7:=d _ _ I c
     have sX:=d.tps N hq;refine⟨_,rfl,_,rfl,_,rfl,D,_,rfl,.inl (SqL.of a7),p,_,rfl,U,by rw[Ab];exact h0,by rw[Ab];omega,fun r5 H5 xY uG W bW=>?_⟩;rw[Ab] at uG;obtain⟨n5,rfl⟩:=Int.eq_ofNat_of_zero_le xY;obtain⟨t,et⟩:∃t,as[n5]?=some t:=⟨as[n5]'ω,Af _⟩;obtain⟨q,eq,tV⟩:=sX.get et;have hql:=h2 q (Ap eq);refine⟨D,_,_,.ref t,rfl,rfl,SqL.of (W _ _ I a7),zu (by rw[Ai,et];rfl),?_⟩;refine⟨_,rfl,p,2,rfl,bW,ξ,ξ,fun r6 H6 uJ ub bF bz=>?_⟩;obtain⟨z,ez⟩:=at2 hql uJ ub;refine⟨t,_,_,_,rfl,rfl,SqT.of (bF.tp bW (W.tp U tV)),ez,?_⟩;have kJ:=(d.trans W).trans bF;have vd:=kJ _ _ Y (b _ _ v);have fY:=kJ _ _ G (b _ _ M);obtain⟨hJ,e',hk'⟩:=Ho (y:=z) (show x∈ms.map (·.1) by rw[hk];exact lV);refine⟨_,rfl,_,rfl,T,_,rfl,DPut.k (k:=Sum.inl x) vd ?_,⟨_,_,hJ,rfl,?_,bz.upd Y,?_,?_,by rw[hk',hk]⟩⟩
     ·rw[Ab,Ab]
      have:ms.length=ns.length:=by have:=congrArg List.length hk;simpa using this
      exact e_ ω
     ·exact(Z.trans kJ).then J
     ·rw[zl (Ne.symm j5)];exact fY
     ·rw[ai];exact congrArg (fun l=>some (HO.dK l)) e'
    ·exact⟨_,_,ms,rfl,Z.trans d,U,d _ _ G (b _ _ M),d _ _ Y (b _ _ v),hk⟩
   ·rw[decide_eq_false h0]
    exact aH (aH keep)
  ·rintro σ H2 ⟨j,u,ms,rfl,g,X,M,v,hk⟩
   exact⟨_,rfl,k T ms H2 g X J v hk⟩
end
end K56
end
section
namespace K56
open K1
open PySem L2
abbrev jG:Stmt:=top 62
def C8(C:Addr)(i:Nat)(b:Bool):TE:=fun σ H Q=>∃x,σ[i]?=some (some (.ref x))/\H x=some (eI x C)/\Q (.bl b) H
section
variable{X:Cx}{x1 x2 x3 x4:Str}{j1 j2 j3 j4:Nat}{p1 p2 p3 p4:Pos}{es:List Expr}{t:TA}
def hF{n a:Str}{i:Nat}{C d:Addr}{b:Bool}{g f j pos:Pos}(l:dX X.K C)(y:AJ X.K (.ref C) (.ref d)=some b)(o:X.mg "isinstance"=none)(p:X.mg a=some (.ref d))(r:Gl X "isinstance")(w:Gl X a)(he:PE X (.Name n f) (ax i))(z:(a==("__debug__":Str))=false:=by decide):PE X (.Call (.Name "isinstance" g) [.Name n f,.Name a j] [] pos) (C8 C i b):=by
 intro aa s σ H Q I h;obtain⟨x,e,hx,q⟩:=h;refine(show PE X _ _ from zh (Hw (c:=.ref d) (fun u h=>h) l y) r o zT (ac he (ac (kF (v:=.ref d) w p rfl (hd:=z)) al))) aa s σ H Q I ?_;exact⟨_,e,x,rfl,hx,q⟩
def HK(h:PA X es t):PA X (.Constant (.str x1) j1 p1::.Constant (.str x2) j2 p2::.Constant (.str x3) j3 p3::.Constant (.str x4) j4 p4::es) (zJ (tC (.str x1)) (zJ (tC (.str x2)) (zJ (tC (.str x3)) (zJ (tC (.str x4)) t)))):=
 ac pe_str (ac pe_str (ac pe_str (ac pe_str h)))
end
structure Mk(K:Ae)(C f0 f1 f2 f3 f4 f5 f6 f7 f8 f9 dF:Addr)(i:Nat):Prop where
 xc:dX K C
 y0:AJ K (.ref C) (.ref f0)=some (decide (i=0))
 y1:AJ K (.ref C) (.ref f1)=some (decide (i=1))
 y2:AJ K (.ref C) (.ref f2)=some (decide (i=2))
 y3:AJ K (.ref C) (.ref f3)=some (decide (i=3))
 y4:AJ K (.ref C) (.ref f4)=some (decide (i=4))
 y5:AJ K (.ref C) (.ref f5)=some (decide (i=5))
 y6:AJ K (.ref C) (.ref f6)=some (decide (i=6))
 y7:AJ K (.ref C) (.ref f7)=some (decide (i=7))
 y8:AJ K (.ref C) (.ref f8)=some (decide (i=8))
 y9:AJ K (.ref C) (.ref f9)=some (decide (i=9))
 y10:AJ K (.ref C) (.ref dF)=some (decide (i=10))
 yv:AJ K (.ref C) (.type "ValueError")=some true
def OG{K:Ae}{C f0 f1 f2 f3 f4 f5 f6 j f8 f9 dF:Addr}{i:Nat}(a:PySem.W.findIn K (.ref C) "__getattribute__"=some (some (.builtin "BaseException.__getattribute__")))(b:PySem.W.findIn K (.ref C) "__getattr__"=some none)(q:PySem.W.excIn K C kt "ValueError.__new__"=true)(c:PySem.W.findIn K (.ref C) "__class__"=some (some (.builtin "object.__class__")))(d:PySem.W.specialIn K (.builtin "object.__class__") "__get__"=some (some (.builtin "getset_descriptor.__get__")))(e:PySem.W.takesIn K (.builtin "object.__class__")=some true)(f:PySem.W.mroIn K C (.type "object")=some true)(g:PySem.W.mroIn K C (.type "BaseException")=some true)(l:AJ K (.ref C) (.ref f0)=some (decide (i=0)))(o:AJ K (.ref C) (.ref f1)=some (decide (i=1)))(p:AJ K (.ref C) (.ref f2)=some (decide (i=2)))(r:AJ K (.ref C) (.ref f3)=some (decide (i=3)))(s:AJ K (.ref C) (.ref f4)=some (decide (i=4)))(u:AJ K (.ref C) (.ref f5)=some (decide (i=5)))(v:AJ K (.ref C) (.ref f6)=some (decide (i=6)))(w:AJ K (.ref C) (.ref j)=some (decide (i=7)))(x:AJ K (.ref C) (.ref f8)=some (decide (i=8)))(y:AJ K (.ref C) (.ref f9)=some (decide (i=9)))(h:AJ K (.ref C) (.ref dF)=some (decide (i=10)))(z:AJ K (.ref C) (.type "ValueError")=some true):Mk K C f0 f1 f2 f3 f4 f5 f6 j f8 f9 dF i:=⟨Oq a b q c d e f g,l,o,p,r,s,u,v,w,x,y,h,z⟩
def OH:List Expr:=match List.drop 4 (zP jG) with
 |[.Assign _ (.List E _) _,_]=>E
 |_=>[]
def C9:Stmt:=(List.drop 5 (zP jG)).headD (.Pass ⟨0,0,0,0⟩)
def wS(i:Nat):Stmt:=(zP jG).getD i (.Pass ⟨0,0,0,0⟩)
def w2:∃E:List Expr,zP jG=[wS 0,wS 1,wS 2,wS 3,.Assign [.Name "some" ⟨256,4,256,8⟩] (.List E ⟨256,11,256,105⟩) ⟨256,4,256,105⟩,C9]/\∀X:Cx,PA X E (zJ (tC (.str "web")) (zJ (tC (.str "piece")) (zJ (tC (.str "chain")) (zJ (tC (.str "closed")) (zJ (tC (.str "table")) (zJ (tC (.str "goal")) (zJ (tC (.str "push")) (zJ (tC (.str "map")) (zJ (tC (.str "order")) (zJ (tC (.str "number")) (zJ (tC (.str "note")) a8))))))))))):=
 ⟨OH,rfl,fun X=>HK (HK (ac pe_str (ac pe_str (ac pe_str al))))⟩
section
variable{P:Program}{w:World}{K:Ae}{mg:Str->Option Value}{base:Heap}
def wd:Nat->Str
 |_=>"map"
def HL(K:Ae)(f0 f1 f2 f3 f4 f5 f6 a f8 f9 dF:Addr):Sp:=fun vs H Q _=>∃x C i,vs=[.ref x]/\Mk K C f0 f1 f2 f3 f4 f5 f6 a f8 f9 dF i/\(i=7)/\H x=some (eI x C)/\∀H',Same H H'->Q (.str (wd i)) H'
def p9:zn ["e","low","some"] ["e"] (zb jG):=⟨rfl,rfl,rfl,δ,rfl,δ,δ⟩
def OI{f f0 f1 f2 f3 f4 f5 f6 D f8 f9 dF:Addr}{fd:FuncData}(F:Fun K "_law_which" "_law_which" jG f fd)(b:mg "isinstance"=none)(T:mg "ValueError"=none)(U:mg "NoWeb"=some (.ref f0))(W:mg "NoPiece"=some (.ref f1))(m2:mg "NoChain"=some (.ref f2))(X:mg "NotClosed"=some (.ref f3))(Y:mg "NoTable"=some (.ref f4))(Z:mg "NoGoal"=some (.ref f5))(m6:mg "NoPush"=some (.ref f6))(m7:mg "NoMap"=some (.ref D))(m8:mg "NoOrder"=some (.ref f8))(m9:mg "NoNumber"=some (.ref f9))(l7:mg "NoNote"=some (.ref dF))
 :pK P w K mg base 1 f fd ["e"] (HL K f0 f1 f2 f3 f4 f5 f6 D f8 f9 dF):=by
 refine F.okN p9 (fun vs H Q E h=>?_) (fun cdv A outer s H vs Q E hr h=>?_)
 ·obtain⟨x,C,i,rfl,_⟩:=h;rfl
 ·obtain⟨x,C,i,rfl,M,hi,hx,k⟩:=h
  obtain⟨EL,L,N⟩:=w2;rw[L];refine⟨_,za (zp (i:=1) p9.nd rfl (Or.inl rfl) (zQ (ac (hF M.xc M.y0 b U rfl rfl (pv 0)) (ac (hF M.xc M.y1 b W rfl rfl (pv 0)) (ac (hF M.xc M.y2 b m2 rfl rfl (pv 0)) (ac (hF M.xc M.y3 b X rfl rfl (pv 0)) al))))))
   (za (zp (i:=1) p9.nd rfl (Or.inl rfl) (zD fR (pv 1) (zQ (ac (hF M.xc M.y4 b Y rfl rfl (pv 0)) (ac (hF M.xc M.y5 b Z rfl rfl (pv 0)) (ac (hF M.xc M.y6 b m6 rfl rfl (pv 0)) (ac (hF M.xc M.y7 b m7 rfl rfl (pv 0)) al)))))))
   (za (zp (i:=1) p9.nd rfl (Or.inl rfl) (zD fR (pv 1) (zQ (ac (hF M.xc M.y8 b m8 rfl rfl (pv 0)) (ac (hF M.xc M.y9 b m9 rfl rfl (pv 0)) (ac (hF M.xc M.y10 b l7 rfl rfl (pv 0)) al))))))
   (za (zN (PW.pt (kK (eL (fg (zh (Hw (c:=.ty "ValueError") (fun u h=>h) M.xc M.yv) rfl b zT (ac (pv 0) (ac (kI (v:=.ty "ValueError") rfl T PyProof.Rows.Boot.«ValueError» rfl) al))))) (my (zo jQ (iE PySem.F.plainAttrs_list PySem.F.slot_list_count PySem.F.type_list_count Om (pv 1) (ac dc al)) ze (aq _)))))
     (zd (zr pe_str)) zv)
   (za (zp (i:=2) p9.nd rfl (Or.inl rfl) (zQ (N _)))
    (zd (zr (zI zC (pv 2) (iE PySem.F.plainAttrs_list PySem.F.slot_list_index PySem.F.type_list_index On (pv 1) (ac dc al)) (fun _ _=>rfl)))))))),?_⟩
  refine⟨x,rfl,hx,x,rfl,hx,x,rfl,hx,x,rfl,hx,zf (by simp),fun p hp=>?_⟩;have d:=Same.new (o:=.lst [.bl (decide (i=0)),.bl (decide (i=1)),.bl (decide (i=2)),.bl (decide (i=3))]) hp;refine⟨_,rfl,x,rfl,d _ _ hx,x,rfl,d _ _ hx,x,rfl,d _ _ hx,x,rfl,d _ _ hx,zf (by simp),fun p2 l=>?_⟩;have O:=d.trans (Same.new (o:=.lst [.bl (decide (i=4)),.bl (decide (i=5)),.bl (decide (i=6)),.bl (decide (i=7))]) l);refine⟨p,p2,_,_,rfl,rfl,(Same.new l) _ _ ai,ai,zf (by simp),fun p3 G=>?_⟩;have g:=O.trans (Same.new (o:=.lst [.bl (decide (i=0)),.bl (decide (i=1)),.bl (decide (i=2)),.bl (decide (i=3)),.bl (decide (i=4)),.bl (decide (i=5)),.bl (decide (i=6)),.bl (decide (i=7))]) G);refine⟨_,rfl,x,rfl,g _ _ hx,x,rfl,g _ _ hx,x,rfl,g _ _ hx,zf (by simp),fun p4 q=>?_⟩;have S:=g.trans (Same.new (o:=.lst [.bl (decide (i=8)),.bl (decide (i=9)),.bl (decide (i=10))]) q);refine⟨p3,p4,_,_,rfl,rfl,(Same.new q) _ _ ai,ai,zf (by simp),fun j I=>?_⟩;have y:=S.trans (Same.new (o:=.lst [.bl (decide (i=0)),.bl (decide (i=1)),.bl (decide (i=2)),.bl (decide (i=3)),.bl (decide (i=4)),.bl (decide (i=5)),.bl (decide (i=6)),.bl (decide (i=7)),.bl (decide (i=8)),.bl (decide (i=9)),.bl (decide (i=10))]) I);refine⟨_,rfl,x,rfl,y _ _ hx,_,rfl,?_⟩;refine aH ⟨_,rfl,.inl ⟨rfl,_,SqL.of ai⟩,j,_,.bl true,rfl,rfl,ai,rfl,?_⟩;subst hi
  ·refine⟨rfl,rfl,false,(by first|rfl|decide),aH ⟨zf (by simp),fun J r=>?_⟩⟩
   have z:=(Same.new (o:=.lst [.str "web",.str "piece",.str "chain",.str "closed",.str "table",.str "goal",.str "push",.str "map",.str "order",.str "number",.str "note"]) r) _ _ (ai (a:=j));refine⟨_,rfl,_,rfl,.inl ⟨rfl,_,SqL.of z⟩,j,_,.bl true,7,rfl,rfl,z,ξ,rfl,ξ,ξ,(fun m hm=>?_),J,_,7,_,rfl,rfl,SqL.of ai,rfl,k _ (y.trans (Same.new r))⟩;have:m=0\/m=1\/m=2\/m=3\/m=4\/m=5\/m=6:=ω
   rcases this with rfl|rfl|rfl|rfl|rfl|rfl|rfl<;>decide
end
end K56
end
section
namespace L2
open PySem PySem.Spec PyProof.Rows
section
variable{X:Cx}
def zi4:V->List V->Hp->VK->Prop:=fun x vs H Q=>∃d kvs,x=.ref d/\vs=[]/\H d=some (.dT kvs)/\Q .non (upd H d (.dT []))
def fy:qQ X "dict.clear" zi4:=by
 intro aa s σ H x vs v us Q I g i h;obtain⟨d,kvs,rfl,rfl,hd,q⟩:=h;cases g;obtain rfl:=i.zero;obtain⟨z,hs,ys,e,o,es,ep,h1,h2,c,l,r⟩:=(show zB X.prog X.w H s.heap d (.dT kvs) from I.hok d _ hd);have hsz:es.size<=sizeLine:=by
  have:=congrArg List.length l;rw[Ab,<-A2 e] at this;simp at this;omega
 have hT:s.TypeIs (.ref d) "dict":=⟨o,h1,h2.1⟩;have p:MeetsIn X.prog X.w (Builtin.«dict.clear» ⟨[.ref d],[]⟩) (fun _ R s=>s.heap.get? d=some o/\∀h',(∃o' b,h'.get? d=some o'/\o'.ExactDict/\o'.data=.dict #[] b)->AQ d s.heap h'->R (.ok (.ret .none)) {s with heap:=h'}):=
  .of_wp fun A R s ⟨a,h⟩=>by
   unfold Builtin.«dict.clear»;refine Aa ?_;unfold Builtin.Dict.noArgs;refine Aa (wpAny_notOrdered_dict (show s.TypeIs (.ref d) "dict" from⟨o,a,h2.1⟩) ?_);show wpAny _ _ (pure d) _ _ s;refine Ac ?_;refine Aa (AD a c ?_);refine Aa ?_;unfold bearsInstanceDictMark;refine Aa (wpAny_load a (Ac ?_));refine Aa (wpAny_updateDictKeys (hz:=hsz) a c ?_);have f:∃o' b,(s.heap.update d (Obj.mapDictKeys fun _=>#[])).get? d=some o'/\o'.ExactDict/\o'.data=.dict #[] b:=
    ⟨_,ep+1,A5 _ a (Obj.isFreed_of_dict (Obj.data_mapDictKeys c _)),h2.mapDictKeys _,Obj.data_mapDictKeys c _⟩
   split
   ·exact Aa (wpAny_letGo (Ac ⟨.none,rfl,h _ f (AL ..)⟩))
   ·exact Aa (Ac (Ac ⟨.none,rfl,h _ f (AL ..)⟩))
 refine call_meetsIn PySem.F.slot_dict_clear hT PySem.F.entry_dict_clear (PySem.F.args_dict_clear_1 _) p ⟨h1,fun h' ⟨o',b,e1,e2,e3⟩ j=>?_⟩;exact⟨.non,_,nz (ob:=.dT []) I (by rw[hd];exact True.intro) j ⟨o',e1⟩ ⟨AK _,hs,[],.nil,o',#[],b,e1,e2,e3,rfl,List.nodup_nil⟩,rfl,q⟩
def OJ(to:TE):TE:=fun σ H Q=>to σ H fun x H1=>zi4 x [] H1 Q
def OK{o:Expr}{to:TE}{aS ay:Pos}(i:PE X o to)(j:attributeBase o "clear" X.env (eval o X.env)=eval o X.env:=by rfl)(l:(aS.endLine==ay.line)=true:=by rfl):PE X (.Call (.Attribute o "clear" aS) [] [] ay) (OJ to):=by
 intro aa s σ H Q I h;refine wpAny_Call_method0_late j l (aL (i aa s σ H _ I h) fun v b ⟨x,H1,I1,f,c⟩=>?_);have g:=c;obtain⟨d,kvs,rfl,_,hd,_⟩:=c;cases f;obtain⟨_,_,_,_,ob,_,_,e,ex,_⟩:=(show zB X.prog X.w H1 b.heap d (.dT kvs) from I1.hok d _ hd);exact⟨"dict","dict.clear",PySem.F.plainAttrs_dict,PySem.F.slot_dict_clear,PySem.F.type_dict_clear,⟨ob,e,ex.1⟩,(fun a z=>by cases z;exact⟨ob,e,ex.2.1⟩),Calls.callWith_builtin rfl (PySem.evalArgs_none (fy aa b σ H1 (.ref d) [] (.ref d) [] Q I1 rfl .nil g))⟩
end
end L2
end
section
namespace L2
open PySem PySem.Spec PyProof.Rows
def FnOk.dn{P:Program}{w:World}{K:Ae}{mg:Str->Option Value}{base:Heap}{k:Nat}{f:Addr}{fd:FuncData}{ps:List Str}{sp sq:Sp}(F:FnOk P w K mg base (dU P w) k f fd ps sp)(h:∀vs H Q E,sq vs H Q E->sp vs H Q E0):FnOk P w K mg base aw k f fd ps sq:=
 ⟨fun vs H Q E q=>F.len _ _ _ _ (h _ _ _ _ q),fun A outer s H args us vs Q E hr b hb c hs=>Bc (F.run A outer s H args us vs Q E0 hr b hb c (h _ _ _ _ hs)) fun r s' a=>by
  cases r with
  |error e=>obtain⟨x,C,T,H',_,_,_,_,_,_,_,_,_,d⟩:=a;exact d.elim
  |ok fl=>cases fl<;>exact a⟩
end L2
namespace K56
open K1
open PySem L2 STb
abbrev C_:Stmt:=top 66
section
variable{P:Program}{w:World}{K:Ae}{mg:Str->Option Value}{base:Heap}{f fw f0 f1 f2 f3 f4 f5 f6 fM f8 f9 dF fS:Addr}{fd cp:FuncData}
def Da(K:Ae):Sp:=fun vs H Q _=>∃l o m e as bs pss af ns ms,vs=[.ref l,.ref o,.ref m,.ref e]/\W4 K H l o m e as bs pss af ns ms/\zbQ ns ms pss af=true/\∀H',Same H H'->Q (.bl (besM ns ms (canon pss) (canon af))) H'
def OL(F:FnOk P w K mg base (dU P w) 11 f fd ["web","other","one","two"] (C3 K fM)):FnOk P w K mg base aw 11 f fd ["web","other","one","two"] (Da K):=F.dn fun vs H Q E ⟨l,o,m,e,as,bs,pss,af,ns,ms,h1,h2,a,k⟩=>⟨l,o,m,e,as,bs,pss,af,ns,ms,h1,h2,.inl ⟨a,k⟩⟩
def va(K:Ae):Sp:=fun vs H Q E=>∃l o m e d as bs pss af ns ms cs,vs=[.ref l,.ref o,.ref m,.ref e,.ref d]/\W4 K H l o m e as bs pss af ns ms/\WC H l d as pss cs/\(∀c∈cs,c.1∈canon pss)/\
 ((i3 ns ms pss af=true/\∀D H',zx d H H'->Rd H' d (.dT (aK cs))->H D=none->H' D=some (.dT (aK (du (dA ns ms cs))))->Q (.ref D) H')\/(i3 ns ms pss af=false/\∀H',Same H H'->Q (.str "map") H'))
def p_:zn ["web","other","one","two","chain","told","e"] ["web","other","one","two","chain"] (zb C_):=⟨rfl,rfl,rfl,δ,rfl,δ,δ⟩
def OM(F:Fun K "_law_asked" "_law_asked" C_ f fd)(N:mg "SeamError"=some (.ref fS))(U:Cl P w K mg base (dU P w) "prism" ["web","other","one","two","chain"] 12 (pX K fM))(Fw:Fun K "_law_which" "_law_which" jG fw cp)(O:Binds K cp ["e"] [])(T:mg "_law_which"=some (.ref fw))(W:pK P w K mg base 1 fw cp ["e"] (HL K f0 f1 f2 f3 f4 f5 f6 fM f8 f9 dF))(M:Mk K fM f0 f1 f2 f3 f4 f5 f6 fM f8 f9 dF 7)(S:iX K fM fS):FnOk P w K mg base aw 13 f fd ["web","other","one","two","chain"] (va K):=by
 refine F.ok p_ (fun vs H Q E h=>?_) (fun cdv A outer s H vs Q E hr h=>?_)
 ·obtain⟨l,o,m,e,d,as,bs,pss,af,ns,ms,cs,rfl,_⟩:=h;rfl
 ·obtain⟨l,o,m,e,d,as,bs,pss,af,ns,ms,cs,rfl,J,L,j,h⟩:=h
  have q:Room 1 _:=hr.mono ξ;refine⟨_,za (zp (i:=5) p_.nd rfl (Or.inl rfl) Ia)
   (za (Ob (ie:=6) (S:=fS) rfl p_.nd rfl rfl rfl rfl rfl N
    (fun aa EB=>zd (zp (i:=5) p_.nd rfl (Or.inl rfl) (zL U hr rfl (Oa rfl) (ac (pv 0) (ac (pv 1) (ac (pv 2) (ac (pv 3) (ac (pv 4) al))))))))
    (fun aa x=>zd (zp (i:=5) p_.nd rfl (Or.inl rfl) (Oj (E:=E0) W (q.mark _) rfl T Fw.kp O .nil (ac (pv 6) al)))))
   (zd (zr (pv 5)))),?_⟩
  refine⟨_,rfl,_,rfl,_,rfl,_,rfl,_,rfl,l,o,m,e,d,as,bs,pss,af,ns,ms,cs,rfl,J,L,j,?_⟩;rcases h with ⟨p,k⟩|⟨p,k⟩
  ·exact .inl ⟨p,fun D H' r u v y=>⟨_,rfl,k D H' r u v y⟩⟩
  ·refine .inr ⟨p,fun H1 z x hx=>⟨x,fM,rfl,rfl,S,fun C G=>?_⟩⟩
   match C,G with
   |[a,b,c,d,e,f,g],_=>exact⟨_,rfl,x,fM,7,rfl,M,rfl,ai,fun H2 I=>⟨_,rfl,k H2 (z.trans ((Same.new hx).trans I))⟩⟩
end
end K56
end
section
namespace K56
open K1
open PySem L2 STb
abbrev fz:Stmt:=top 67
def Db{k:Nat}{A:Around}(r:Room k A):A.units+128<cLine:=by have:=r.un;omega
def ON{H H':Hp}{W d:Addr}{u:HO}(s:zx W H H')(a:d≠W)(r:Rd H d u):Rd H' d u:=by
 rcases r with r|⟨o,r⟩
 ·exact .inl (s _ _ a r)
 ·exact .inr ⟨o,s _ _ a r⟩
def HM{H:Hp}{x:Addr}{o:HO}:zx x H (L2.upd H x o):=fun b u hb e=>by rw[zl hb];exact e
def OO{H:Hp}{d l:Addr}{u:HO}(r:Rd H d u)(h:H l=none):d≠l:=by
 rcases r with r|⟨_,r⟩
 ·exact zg r h
 ·exact zg r h
def OP(a:Ξ):fU a []=true:=Gu (n:=0) (fun c hc=>nomatch hc) (fun c hc=>nomatch hc) (fun c hc=>nomatch hc)
structure S8(H:Hp)(O OT M N KN TH CH LA LB DM DN DC HD:Addr)(os bs ks ts:List Addr)(pss af:Ξ)(ns ms:List (Int×Int))(cs:Ch):Prop where
 hO:H O=some (.lst (os.map V.ref))
 ho:Tps H os pss
 hT:H OT=some (.lst (bs.map V.ref))
 hb:Tps H bs af
 hM:H M=some (zV ns)
 hN:H N=some (zV ms)
 hK:H KN=some (.lst (ks.map V.ref))
 hk:Tps H ks (canon pss)
 hTH:H TH=some (.lst (ts.map V.ref))
 ht:Tps H ts (canon af)
 hC:H CH=some (.dT (aK cs))
 hA:H LA=some (.lst (os.map V.ref))
 hB:H LB=some (.lst (bs.map V.ref))
 hD:H DM=some (zV ns)
 hE:H DN=some (zV ms)
 rd:Rd H DC (.dT (aK cs))
 hH:H HD=some (.lst [.ref LA,.ref LB,.ref DM,.ref DN,.ref DC])
section
variable{O OT M N KN TH CH LA LB DM DN DC HD:Addr}{os bs ks ts:List Addr}{pss af:Ξ}{ns ms:List (Int×Int)}{cs:Ch}{H H':Hp}
def S8.same(h:S8 H O OT M N KN TH CH LA LB DM DN DC HD os bs ks ts pss af ns ms cs)(s:Same H H'):S8 H' O OT M N KN TH CH LA LB DM DN DC HD os bs ks ts pss af ns ms cs:=
 ⟨s _ _ h.hO,s.tps h.ho,s _ _ h.hT,s.tps h.hb,s _ _ h.hM,s _ _ h.hN,s _ _ h.hK,s.tps h.hk,s _ _ h.hTH,s.tps h.ht,s _ _ h.hC,s _ _ h.hA,s _ _ h.hB,s _ _ h.hD,s _ _ h.hE,h.rd.same s,s _ _ h.hH⟩
def S8.but{x:Addr}{kvs:List (List Key×V)}(h:S8 H O OT M N KN TH CH LA LB DM DN DC HD os bs ks ts pss af ns ms cs)(s:zx x H H')(hx:Rd H x (.dT kvs))(h1:CH≠x)(a:Rd H' DC (.dT (aK cs))):S8 H' O OT M N KN TH CH LA LB DM DN DC HD os bs ks ts pss af ns ms cs:=
 have z:∀{b:Addr}{l:List (Int×Int)},H b=some (zV l)->H' b=some (zV l):=fun{b l} e=>s _ _ (pl hx e (by intro k z;cases z) (by intro q k z;cases z)) e
 ⟨s.lst hx h.hO,s.tpsD hx h.ho,s.lst hx h.hT,s.tpsD hx h.hb,z h.hM,z h.hN,s.lst hx h.hK,s.tpsD hx h.hk,s.lst hx h.hTH,s.tpsD hx h.ht,s _ _ h1 h.hC,s.lst hx h.hA,s.lst hx h.hB,z h.hD,z h.hE,a,s.lst hx h.hH⟩
end
abbrev Dc:List Str:=["script","box","web","other","one","known","there","two","chain","handed","found","due","told"]
section
variable{P:Program}{w:World}{K:Ae}{mg:Str->Option Value}{base:Heap}{f:Addr}{fd:FuncData}
def vb(K:Ae):Sp:=fun vs H Q _=>∃(a:Addr)(ns:List Int),vs=[.ref a]/\SqL K H a (ns.map V.int)/\ns.length<=63/\∀H',Q (.bl true) H'
def fC:zn Dc ["script"] (zb fz):=⟨rfl,rfl,rfl,δ,rfl,δ,δ⟩
def OQ{cdv:Value}{A:Around}{outer:List Env}{s:Shared}{H:Hp}{Q:VK}{E:XK}(hr:Room 13 (bh aw P w K mg base Dc "law" (zb fz) f cdv A outer s H E).A)(k:∀H',Q (.bl true) H')(B:Bt mg)(Ca:Cl P w K mg base aw "_law_asked" ["web","other","one","two","chain"] 13 (va K))(Cb:Cl P w K mg base aw "beside" ["web","other","one","two"] 11 (Da K))(Cd:Cl P w K mg base aw "_law_beside" ["known","there","one","two"] 1 (C5 K))(Cq:Cl P w K mg base aw "_law_prism" ["one","two","chain"] 2 C7)(Ck:Cl P w K mg base aw "_law_chain_like" ["found","due"] 2 CL):∃tr,PSs (bh aw P w K mg base Dc "law" (zb fz) f cdv A outer s H E).nox (List.drop 7 (zP fz)) tr/\
   ∀(O OT M N KN TH CH:Addr)(os bs ks ts:List Addr)(pss af:Ξ)(ns ms:List (Int×Int))(cs:Ch)(v0 v1:Option V)(H2:Hp),H2 O=some (.lst (os.map V.ref))->Tps H2 os pss->H2 OT=some (.lst (bs.map V.ref))->Tps H2 bs af->H2 M=some (zV ns)->H2 N=some (zV ms)->H2 KN=some (.lst (ks.map V.ref))->Tps H2 ks (canon pss)->H2 TH=some (.lst (ts.map V.ref))->Tps H2 ts (canon af)->H2 CH=some (.dT (aK cs))->
    b0 pss->(canon pss).length<=56->b0 af->ns.map (·.1)=dots (canon pss)->ms.map (·.1)=dots (canon pss)->zbQ ns ms pss af=true->fU (canon pss) cs=true->(ksC cs).Nodup->(∀c∈cs,c.1∈canon pss)->cs.length<=(canon pss).length->((ksC cs).map (Ar (intKind P w))).Nodup->
    tr {nx:=fun _ H'=>Q .non H',rt:=Q} [v0,v1,some (.ref O),some (.ref OT),some (.ref M),some (.ref KN),some (.ref TH),some (.ref N),some (.ref CH),none,none,none,none] H2:=by
 have hu:=dr hr;have av:=hr.units;have jn:=Db hr;refine⟨_,za (zp (i:=9) fC.nd rfl (Or.inl rfl) (zQ (ac (zj nr rfl B.list eY (ac (pv 2) al)) (ac (zj nr rfl B.list eY (ac (pv 3) al)) (ac (zj p0 rfl B.dict ig (ac (pv 4) al)) (ac (zj p0 rfl B.dict ig (ac (pv 7) al)) (ac (zj Le rfl B.dict ig (ac (pv 8) al)) al)))))))
  (za (zp (i:=10) fC.nd rfl (Or.inl rfl) (zL Cb hr rfl am (ac (zI zC (pv 9) ze (fun _ _=>rfl)) (ac (zI zC (pv 9) ze (fun _ _=>rfl)) (ac (zI zC (pv 9) ze (fun _ _=>rfl)) (ac (zI zC (pv 9) ze (fun _ _=>rfl)) al))))))
  (za (zp (i:=11) fC.nd rfl (Or.inl rfl) (zL Cd hr rfl am (ac (pv 5) (ac (pv 6) (ac (pv 4) (ac (pv 7) al))))))
  (za (zp (i:=12) fC.nd rfl (Or.inl rfl) (zL Ca hr rfl am (ac (zI zC (pv 9) ze (fun _ _=>rfl)) (ac (zI zC (pv 9) ze (fun _ _=>rfl)) (ac (zI zC (pv 9) ze (fun _ _=>rfl)) (ac (zI zC (pv 9) ze (fun _ _=>rfl)) (ac (zI zC (pv 9) ze (fun _ _=>rfl)) al)))))))
  (za (zN (PW.pt (kK (eL (fg (zh J0 rfl B.isinstance zT (ac (pv 10) (ac (kI (v:=.ty "bool") rfl B.bool E9 rfl) al))))) (kK (zo jQ (pv 10) (pv 11) (aq _)) (my (zo (M4 jn) (pv 9) (zQ (ac (pv 2) (ac (pv 3) (ac (pv 4) (ac (pv 7) (ac (pv 8) al)))))) (aq _)))))) (zd (zr dc)) zv)
  (za (zN (eL (fg (pv 11))) (zd (zr (hG c_ (pv 12) pe_str (aq _)))) zv)
  (za (zN (eL (fg (zL Ck hr rfl am (ac (pv 12) (ac (zL Cq hr rfl am (ac (pv 4) (ac (pv 7) (ac (pv 8) al)))) al))))) (zd (zr dc)) zv)
  (za (fE (OK (pv 12)))
  (zd (zr (hG (Nu av) (zL Ca hr rfl am (ac (zI zC (pv 9) ze (fun _ _=>rfl)) (ac (zI zC (pv 9) ze (fun _ _=>rfl)) (ac (zI zC (pv 9) ze (fun _ _=>rfl)) (ac (zI zC (pv 9) ze (fun _ _=>rfl)) (ac (zI zC (pv 9) ze (fun _ _=>rfl)) al)))))) (zL Cq hr rfl am (ac (pv 4) (ac (pv 7) (ac (pv 8) al)))) (aq _))))))))))),?_⟩
 intro O OT M N KN TH CH os bs ks ts pss af ns ms cs v0 v1 H2 hO ho hT hb hM hN hK hk J ht L F c0 hv hd p gN cz S d u vQ;have X:∀c∈cs,c.1.length<=5:=fun c hc=>(dS F.1 _ (d c hc)).1;have l:∀c∈cs,∀x∈c.1,x∈ns.map (·.1):=fun c hc x hx=>by rw[hd];exact gS (d c hc) hx
 have e:∀c∈cs,∀x∈c.1,x∈ms.map (·.1):=fun c hc x hx=>by rw[p];exact gS (d c hc) hx
 refine⟨_,rfl,O,_,rfl,.inl (SqL.of hO),fun LA oJ=>?_⟩;have sA:=Same.new (o:=.lst (os.map V.ref)) oJ;refine⟨_,rfl,OT,_,rfl,.inl (SqL.of (sA _ _ hT)),fun LB pB=>?_⟩;have sB:=Same.new (o:=.lst (bs.map V.ref)) pB;have qw:=sA.trans sB;refine⟨_,rfl,M,_,rfl,.inl (qw _ _ hM),fun DM nB=>?_⟩;have Y:=Same.new (o:=zV ns) nB;have s3:=qw.trans Y;refine⟨_,rfl,N,_,rfl,.inl (s3 _ _ hN),fun DN l0=>?_⟩;have G:=Same.new (o:=zV ms) l0;have Z:=s3.trans G;refine⟨_,rfl,CH,aK cs,ksC cs,rfl,.inl (Z _ _ L),lF cs,vQ,fun DC lm=>⟨zf (by simp),fun HD sO=>?_⟩⟩;have sC:=Same.new (o:=.dT (aK cs)) lm;have sH:=Same.new (o:=.lst [.ref LA,.ref LB,.ref DM,.ref DN,.ref DC]) sO;have qb:CH≠DC:=zg (Z _ _ L) lm;have y:=sC.trans sH;have g:=Z.trans y;have st:S8 _ O OT M N KN TH CH LA LB DM DN DC HD os bs ks ts pss af ns ms cs:=
  ⟨g _ _ hO,g.tps ho,g _ _ hT,g.tps hb,g _ _ hM,g _ _ hN,g _ _ hK,g.tps hk,g _ _ J,g.tps ht,g _ _ L,y _ _ (G _ _ (Y _ _ (sB _ _ ai))),y _ _ (G _ _ (Y _ _ ai)),y _ _ (G _ _ ai),y _ _ ai,.inl (sH _ _ ai),ai⟩
 have w4:∀{C:Hp},S8 C O OT M N KN TH CH LA LB DM DN DC HD os bs ks ts pss af ns ms cs->W4 K C LA LB DM DN os bs pss af ns ms:=fun z=>⟨⟨SqL.of z.hA,z.ho,F,SqL.of z.hB,z.hb,hv,z.hD,hd⟩,z.hE,p⟩;have wc:∀{C:Hp},S8 C O OT M N KN TH CH LA LB DM DN DC HD os bs ks ts pss af ns ms cs->WC C LA DC os pss cs:=fun z=>⟨z.hA,z.ho,F,ω,z.rd,u,cz,S⟩;refine⟨_,rfl,HD,_,_,_,rfl,rfl,SqL.of st.hH,zu (j:=0) rfl,_,rfl,HD,_,_,_,rfl,rfl,SqL.of st.hH,zu (j:=1) rfl,_,rfl,HD,_,_,_,rfl,rfl,SqL.of st.hH,zu (j:=2) rfl,_,rfl,HD,_,_,_,rfl,rfl,SqL.of st.hH,zu (j:=3) rfl,?_⟩;refine⟨LA,LB,DM,DN,os,bs,pss,af,ns,ms,rfl,w4 st,gN,fun H7 s7=>?_⟩;have r:=st.same s7;refine⟨_,rfl,_,rfl,_,rfl,_,rfl,KN,TH,M,N,ks,ts,ns,ms,canon pss,canon af,rfl,r.hK,r.hk,fun q hq=>(dS F.1 q hq).1,r.hTH,r.ht,r.hM,r.hN,(fun q hq x hx=>by rw[hd];exact gS hq hx),(fun q hq x hx=>by rw[p];exact gS hq hx),fun H8 s8=>?_⟩;have b:=r.same s8;have iM:i3 ns ms pss af=besM ns ms (canon pss) (canon af):=by unfold i3;rw[gN,Bool.true_and]
 refine⟨_,rfl,HD,_,_,_,rfl,rfl,SqL.of b.hH,zu (j:=0) rfl,_,rfl,HD,_,_,_,rfl,rfl,SqL.of b.hH,zu (j:=1) rfl,_,rfl,HD,_,_,_,rfl,rfl,SqL.of b.hH,zu (j:=2) rfl,_,rfl,HD,_,_,_,rfl,rfl,SqL.of b.hH,zu (j:=3) rfl,_,rfl,HD,_,_,_,rfl,rfl,SqL.of b.hH,zu (j:=4) rfl,?_⟩;refine⟨LA,LB,DM,DN,DC,os,bs,pss,af,ns,ms,cs,rfl,w4 b,wc b,d,?_⟩;cases hb1:besM ns ms (canon pss) (canon af) with
 |false=>
  refine .inr ⟨by rw[iM,hb1],fun H9 s9=>?_⟩;have oE:=b.same s9;refine⟨_,rfl,_,rfl,_,rfl,aH ⟨_,rfl,_,rfl,rfl,_,rfl,aH ⟨_,rfl,_,rfl,_,rfl,_,rfl,_,rfl,_,rfl,zf (by simp),fun T W=>?_⟩⟩⟩;have I:=Same.new (o:=.lst [.ref O,.ref OT,.ref M,.ref N,.ref CH]) W;have a:=oE.same I;refine⟨HD,T,_,_,rfl,rfl,SqL.of a.hH,SqL.of ai,.cons (.lt (SqL.of a.hA) a.ho (SqL.of a.hO) a.ho) (.cons (.lt (SqL.of a.hB) a.hb (SqL.of a.hT) a.hb) (.cons (.dz (ns:=ns) (.inl a.hD) (.inl a.hM)) (.cons (.dz (ns:=ms) (.inl a.hE) (.inl a.hN)) (.cons (.dt a.rd (.inl a.hC) (lF cs) (Cu cs)) .nil)))),_,rfl,aH ?_⟩;exact⟨_,rfl,_,rfl,aX ⟨_,rfl,rfl,k _⟩⟩
 |true=>
  refine .inl ⟨by rw[iM,hb1],fun D H9 tQ uE dC wb=>?_⟩;have oE:=b.but tQ b.rd qb uE;have nK:D≠DC:=(OO b.rd dC).symm;have mU:CH≠D:=zg b.hC dC;refine⟨_,rfl,_,rfl,_,rfl,aH ⟨_,rfl,_,rfl,rfl,_,rfl,aH ⟨_,rfl,_,rfl,_,rfl,_,rfl,_,rfl,_,rfl,zf (by simp),fun T W=>?_⟩⟩⟩;have I:=Same.new (o:=.lst [.ref O,.ref OT,.ref M,.ref N,.ref CH]) W;have a:=oE.same I;have wv:=I _ _ wb;refine⟨HD,T,_,_,rfl,rfl,SqL.of a.hH,SqL.of ai,.cons (.lt (SqL.of a.hA) a.ho (SqL.of a.hO) a.ho) (.cons (.lt (SqL.of a.hB) a.hb (SqL.of a.hT) a.hb) (.cons (.dz (ns:=ns) (.inl a.hD) (.inl a.hM)) (.cons (.dz (ns:=ms) (.inl a.hE) (.inl a.hN)) (.cons (.dt a.rd (.inl a.hC) (lF cs) (Cu cs)) .nil)))),_,rfl,aH ?_⟩;refine⟨_,rfl,_,rfl,aH ?_⟩;have hpl:=l9 (ns:=ns) (ms:=ms) X;have fJ:=MB (dA ns ms cs);refine⟨_,rfl,_,rfl,_,rfl,_,rfl,M,N,CH,ns,ms,cs,rfl,a.hM,a.hN,.inl a.hC,ω,S,X,l,e,fun U HB qE yD wC=>?_⟩;have u1:=a.same qE;have qp:=qE _ _ wv;refine⟨D,U,du (dA ns ms cs),rfl,qp,.inl wC,MA _,ω,fun HC qY=>⟨_,rfl,aH ?_⟩⟩;have stC:=u1.same qY;have jL:=qY _ _ qp;refine⟨_,rfl,D,_,rfl,rfl,jL,?_⟩;have h:=stC.but (HM (o:=.dT [])) (.inl jL) mU (ON HM (Ne.symm nK) stC.rd);refine⟨_,rfl,HD,_,_,_,rfl,rfl,SqL.of h.hH,zu (j:=0) rfl,_,rfl,HD,_,_,_,rfl,rfl,SqL.of h.hH,zu (j:=1) rfl,_,rfl,HD,_,_,_,rfl,rfl,SqL.of h.hH,zu (j:=2) rfl,_,rfl,HD,_,_,_,rfl,rfl,SqL.of h.hH,zu (j:=3) rfl,_,rfl,HD,_,_,_,rfl,rfl,SqL.of h.hH,zu (j:=4) rfl,?_⟩;refine⟨LA,LB,DM,DN,DC,os,bs,pss,af,ns,ms,cs,rfl,w4 h,wc h,d,.inl ⟨by rw[iM,hb1],fun D2 HE uh sI ve oO=>?_⟩⟩;have lZ:=h.but uh h.rd qb sI;refine⟨_,rfl,_,rfl,_,rfl,M,N,CH,ns,ms,cs,rfl,lZ.hM,lZ.hN,.inl lZ.hC,ω,S,X,l,e,fun U2 HF sF ul n9=>?_⟩;refine⟨D2,U2,true,rfl,rfl,Hd (.inl (sF _ _ oO)) (.inl n9),k _⟩
def OR(F:Fun K "law" "law" fz f fd)(B:Bt mg)(Cc:Cl P w K mg base aw "_law_cell_at" ["script","k"] 1 (FG K))(Cx:Cl P w K mg base aw "_law_box" ["cell"] 1 FH)(Ct:Cl P w K mg base aw "_law_take" ["box","most"] 1 kg)(Cp:Cl P w K mg base aw "_law_pair" ["box"] 4 Ht)(pR:Cl P w K mg base aw "_law_pieces" ["web"] 2 (lj K))(Cs:Cl P w K mg base aw "_law_second" ["box","there","one"] 2 HI)(Ci:Cl P w K mg base aw "_law_is_map" ["known","there","names"] 2 (G3 K))(vO:Cl P w K mg base aw "_law_chain" ["box","known","high"] 2 (Gh K))(Ca:Cl P w K mg base aw "_law_asked" ["web","other","one","two","chain"] 13 (va K))(Cb:Cl P w K mg base aw "beside" ["web","other","one","two"] 11 (Da K))(Cd:Cl P w K mg base aw "_law_beside" ["known","there","one","two"] 1 (C5 K))(Cq:Cl P w K mg base aw "_law_prism" ["one","two","chain"] 2 C7)(Ck:Cl P w K mg base aw "_law_chain_like" ["found","due"] 2 CL):FnOk P w K mg base aw 14 f fd ["script"] (vb K):=by
 refine F.ok fC (fun vs H Q E h=>?_) (fun cdv A outer s H vs Q E hr h=>?_)
 ·obtain⟨a,ns,rfl,_⟩:=h;rfl
 ·obtain⟨a,nn,rfl,hS,hn,k⟩:=h
  have hu:=dr hr;obtain⟨t7,h7,e7⟩:=OQ (f:=f) (cdv:=cdv) (A:=A) (outer:=outer) (s:=s) (H:=H) (Q:=Q) (E:=E) hr k B Ca Cb Cd Cq Ck;refine⟨_,za (zp (i:=1) fC.nd rfl (Or.inl rfl) (zL Cx hr rfl am (ac (zL Cc hr rfl am (ac (pv 0) (ac ze al))) al)))
   (za (qh (zL Cp hr rfl am (ac (pv 1) al)) (mS rfl (fX (zk (i:=2) fC.nd rfl (Or.inl rfl)) (fX (zk (i:=3) fC.nd rfl (Or.inl rfl)) (fX (zk (i:=4) fC.nd rfl (Or.inl rfl)) mQ)))))
   (za (zp (i:=5) fC.nd rfl (Or.inl rfl) (zL pR hr rfl am (ac (pv 2) al)))
   (za (zp (i:=6) fC.nd rfl (Or.inl rfl) (zL pR hr rfl am (ac (pv 3) al)))
   (za (zp (i:=7) fC.nd rfl (Or.inl rfl) (zL Cs hr rfl am (ac (pv 1) (ac (pv 6) (ac (pv 4) al)))))
   (za (zN (PW.pt (kK (eL (fg (zL Ci hr rfl am (ac (pv 5) (ac (pv 6) (ac (pv 4) al)))))) (my (eL (fg (zL Ci hr rfl am (ac (pv 5) (ac (pv 6) (ac (pv 7) al)))))))))
    (zd (zr (hG c_ (zL Ca hr rfl am (ac (zj nr rfl B.list eY (ac (pv 2) al)) (ac (zj nr rfl B.list eY (ac (pv 3) al)) (ac (zj p0 rfl B.dict ig (ac (pv 4) al)) (ac (zj p0 rfl B.dict ig (ac (pv 7) al)) (ac jV al)))))) pe_str (aq _)))) zv)
   (za (zp (i:=8) fC.nd rfl (Or.inl rfl) (zL vO hr rfl am (ac (pv 1) (ac (pv 5) (ac (zL Ct hr rfl am (ac (pv 1) (ac ze al))) al)))))
   h7)))))),?_⟩
  refine⟨_,rfl,a,nn,rfl,hS,fun n=>⟨n,rfl,fun p x y hp bo=>?_⟩⟩;refine⟨_,rfl,p,rfl,⟨x,y,ai,bo⟩,fun T O OT M os bs pss af ns H1 eD X Y h_ eC be iz kC hv vH mE hd=>?_⟩;refine⟨T,_,rfl,SqT.of Y,rfl,_,_,rfl,_,_,rfl,_,_,rfl,rfl,?_⟩;obtain⟨hw,cn,n8⟩:=lv be;obtain⟨cg,_,h5,_⟩:=iO hw;have cE:=lC be;have c0:(canon pss).length<=56:=by rw[zS];exact cE
  obtain⟨fi,ga,nm,jY⟩:=NN be;have gO:b0 pss:=⟨hw,ω⟩;obtain⟨u2,_,q5,_⟩:=iO hv.1;refine⟨_,rfl,O,os,pss,rfl,SqL.of h_,eC,h5,cg,ω,fun KN H2 qs t=>?_⟩;obtain⟨ks,iS,_,j6,bH⟩:=lD t;refine⟨_,rfl,OT,bs,af,rfl,SqL.of (iS _ _ iz),iS.tps kC,q5,u2,by rw[<-zS];omega,fun TH H3 BP t3=>?_⟩;obtain⟨ts,J,_,hW,gz⟩:=lD t3;have j:=iS.trans J;have r:=X.same j;have c5:=l5 (canon pss);have Bo:ns.length=(dots (canon pss)).length:=by rw[<-hd,Ab]
  refine⟨_,rfl,_,rfl,_,rfl,p,TH,M,ts,canon af,ns,rfl,r,hW,gz,ω,j _ _ mE,ω,fun N ms H4 u bG BE mB hk=>?_⟩;have z:ms.map (·.1)=dots (canon pss):=by rw[hk,hd]
  have pQ:=u _ _ (r.ne (j _ _ h_)) (j _ _ h_);have md:=u.tps r (j.tps eC);have jw:=u _ _ (r.ne (j _ _ iz)) (j _ _ iz);have kE:=u.tps r (j.tps kC);have L:=u _ _ (r.ne (J _ _ j6)) (J _ _ j6);have S:=u.tps r (J.tps bH);have il:=u _ _ (r.ne hW) hW;have iA:=u.tps r gz;have gE:=u _ _ (iW r (j _ _ mE)) (j _ _ mE);have NO:∀(D:Hp)(v0 v1:Option V),Same H4 D->zbQ ns ms pss af=false->mI (cb nh (qK (va K) [] E0 (zJ (eQ (fun xs H Q=>∃p ys,xs=[.ref p]/\(SqL K H p ys\/SqT K H p ys)/\∀l,H l=none->Q (.ref l) (L2.upd H l (.lst ys))) (zJ (ax 2) a8)) (zJ (eQ (fun xs H Q=>∃p ys,xs=[.ref p]/\(SqL K H p ys\/SqT K H p ys)/\∀l,H l=none->Q (.ref l) (L2.upd H l (.lst ys))) (zJ (ax 3) a8)) (zJ (eQ (fun xs H Q=>∃a kvs,xs=[.ref a]/\Rd H a (.dK kvs)/\∀p,H p=none->Q (.ref p) (L2.upd H p (.dK kvs))) (zJ (ax 4) a8)) (zJ (eQ (fun xs H Q=>∃a kvs,xs=[.ref a]/\Rd H a (.dK kvs)/\∀p,H p=none->Q (.ref p) (L2.upd H p (.dK kvs))) (zJ (ax 7) a8)) (zJ DQ a8)))))) (tC (.str "map"))) {nx:=fun _ H'=>Q .non H',rt:=Q} [v0,v1,some (.ref O),some (.ref OT),some (.ref M),some (.ref KN),some (.ref TH),some (.ref N),none,none,none,none,none] D:=by
   intro D v0 v1 g c7;refine⟨_,rfl,O,_,rfl,.inl (SqL.of (g _ _ pQ)),fun LA oJ=>?_⟩;have sA:=g.trans (Same.new (o:=.lst (os.map V.ref)) oJ);refine⟨_,rfl,OT,_,rfl,.inl (SqL.of (sA _ _ jw)),fun LB pB=>?_⟩;have iB:=Same.new (o:=.lst (bs.map V.ref)) pB;have sB:=sA.trans iB;refine⟨_,rfl,M,_,rfl,.inl (sB _ _ gE),fun DM nB=>?_⟩;have iD:=Same.new (o:=zV ns) nB;have sD:=sB.trans iD;refine⟨_,rfl,N,_,rfl,.inl (sD _ _ mB),fun DN l0=>?_⟩;have W:=Same.new (o:=zV ms) l0;have sE:=sD.trans W;refine fun DC lm=>?_;have G:=Same.new (o:=.dT []) lm;have sC:=sE.trans G;have hA:=G _ _ (W _ _ (iD _ _ (iB _ _ (ai (H:=D) (a:=LA) (o:=.lst (os.map V.ref))))));refine⟨LA,LB,DM,DN,DC,os,bs,pss,af,ns,ms,[],rfl,⟨⟨SqL.of hA,sC.tps md,gO,SqL.of (G _ _ (W _ _ (iD _ _ ai))),sC.tps kE,hv,G _ _ (W _ _ ai),hd⟩,G _ _ ai,z⟩,⟨hA,sC.tps md,gO,ω,.inl ai,AK _,OP _,List.nodup_nil⟩,(fun c hc=>nomatch hc),.inr ⟨by unfold i3;rw[c7];rfl,fun H6 s6=>⟨rfl,k _⟩⟩⟩
  refine⟨_,rfl,_,rfl,_,rfl,KN,TH,M,ks,ts,ns,canon pss,pss,canon af,rfl,SqL.of L,S,rfl,ω,fun q hq=>(dS hw q hq).1,SqL.of il,iA,gE,hd,fun D g=>⟨_,rfl,?_⟩⟩;cases hmap:c9 ns (canon pss) (canon af) with
  |false=>exact aX (NO D _ _ g (by unfold zbQ;rw[hmap];rfl))
  |true=>
   refine aH ⟨_,rfl,_,rfl,_,rfl,KN,TH,N,ks,ts,ms,canon pss,pss,canon af,rfl,SqL.of (g _ _ L),g.tps S,rfl,ω,fun q hq=>(dS hw q hq).1,SqL.of (g _ _ il),g.tps iA,g _ _ mB,z,fun H6 s6=>⟨_,rfl,?_⟩⟩;have d:=g.trans s6;cases hmap2:c9 ms (canon pss) (canon af) with
   |false=>exact aX (NO H6 _ _ d (by unfold zbQ;rw[hmap2,Bool.and_false]))
   |true=>
    have v:=bG.same d;have j_:=d _ _ L;have wP:=d.tps S;refine aH ⟨_,rfl,_,rfl,_,rfl,p,3,rfl,v,ξ,ξ,fun hi H7 i0 i1 de gW=>?_⟩;refine⟨p,KN,ks,canon pss,hi,rfl,gW,de _ _ (v.ne j_) j_,de.tps v wP,ω,fun CH cs H8 rV yz BV yl nd sub len wt=>?_⟩;have C:=de.trans rV;have I:∀c∈cs,c.1∈canon pss:=fun c hc=>sub c.1 (List.mem_map.mpr ⟨c,hc,rfl⟩);have U:∀{b:Addr}{as:List Addr},H4 b=some (.lst (as.map V.ref))->H8 b=some (.lst (as.map V.ref)):=fun{b as} e=>C _ _ (v.ne (d _ _ e)) (d _ _ e);have Z:∀{b:Addr}{l:List (Int×Int)},H4 b=some (zV l)->H8 b=some (zV l):=fun{b l} e=>C _ _ (iW v (d _ _ e)) (d _ _ e);exact e7 O OT M N KN TH CH os bs ks ts pss af ns ms cs _ _ H8 (U pQ) (C.tps v (d.tps md)) (U jw) (C.tps v (d.tps kE)) (Z gE) (Z mB) (U L) (C.tps v (d.tps S)) (U il) (C.tps v (d.tps iA)) yl gO c0 hv hd z (by unfold zbQ;rw[hmap,hmap2];rfl)
     (Gu I (n:=(hi+1).toNat) (fun c hc=>by have:=(wt c hc).1;omega) fun c hc=>(wt c hc).2.1) nd I len (NM nm nd fun q hq=>by obtain⟨e0,r0,e⟩:=jY q (sub q hq);exact .inl ⟨e0,r0,.inl e⟩)
end
end K56
end
section
namespace K56
open K1
open PySem L2 STb
def OS{l:PySem.W.OpenLaw}{w:World}{K:Ae}{h:Heap}{mg:Str->Option Value}{fa f1 f2 f3 f4 f5 f6 f7 f8 f9 dF xk um sR ym rJ tN uH yy wZ ug u7 ui yi u6 wA xb wj sw wW uk xq wY wD yw vX xo wa tu wQ vG tJ si sZ vm e0 e1 e2 e3 e4 e5 e6 b e8 e9 re eS:Addr}{tp tq tr ts:Tok}(X:K.In h)(G:h.Ns mainGlobals mg)(yt:mg "law"=some (.ref fa))(d1:Df K "is_piece" rG f1)(d2:Df K "parts_of" li f2)(d3:Df K "order_key" fm f3)(d4:Df K "in_order" ol f4)(d5:Df K "all_parts" sAll f5)(d6:Df K "is_web" rL f6)(d7:Df K "must_be_web" sK f7)(d8:Df K "pieces" o8 f8)(d9:Df K "is_chain" tt f9)(lA:Df K "is_of_one_height" iR dF)(su:Df K "must_be_chain" Cv xk)(wB:Df K "sum_of" km um)(wx:Df K "is_map" tW sR)(xJ:Df K "must_be_map" CF ym)(yn:Df K "image_of" tS rJ)(rQ:Df K "names_along" pu tN)(tZ:Df K "risen_terms" CC uH)(wF:Df K "falls_in" pC yy)(wp:Df K "less_than" pA wZ)(yf:Df K "beside" iY ug)(xO:Df K "both_images" CY u7)(sv:Df K "prism" CZ ui)(uz:Df K "prism_terms" C0 yi)(rD:Df K "_law_cell_at" Cj u6)(xm:Df K "_law_box" kd wA)(uT:Df K "_law_take" kf xb)(tm:Df K "_law_parts" oM wj)(wJ:Df K "_law_pieces" sh sw)(vk:Df K "_law_known" so wW)(ut:Df K "_law_named" oW uk)(sW:Df K "_law_web" iL xq)(xy:Df K "_law_chain" Cw wY)(yg:Df K "_law_whole" t4 wD)(wz:Df K "_law_chain_like" t6 yw)(xX:Df K "_law_image" pw vX)(xg:Df K "_law_is_map" tX xo)(rR:Df K "_law_pair" g0 wa)(rS:Df K "_law_rising" t_ tu)(sy:Df K "_law_which" jG wQ)(yo:Df K "_law_beside" p5 vG)(vK:Df K "_law_prism" fv tJ)(wX:Df K "_law_second" i5 si)(vq:Df K "_law_asked" C_ sZ)(qW:Df K "law" fz vm)(gp:Nn K "MOST_POINTS" (some (.int 5 tp)))(gq:Nn K "LAST_POINT" (some (.int 99 tq)))(gr:Nn K "MOST_HANDED" (some (.int 20 tr)))(gs:Nn K "MOST_PIECES" (some (.int 200 ts)))(tY:Nn K "NoWeb" (some (.ref e0)))(xQ:Nn K "NoPiece" (some (.ref e1)))(ye:Nn K "NoChain" (some (.ref e2)))(x6:Nn K "NotClosed" (some (.ref e3)))(wO:Nn K "NoTable" (some (.ref e4)))(vF:Nn K "NoGoal" (some (.ref e5)))(rT:Nn K "NoPush" (some (.ref e6)))(q:Nn K "NoMap" (some (.ref b)))(xH:Nn K "NoOrder" (some (.ref e8)))(w9:Nn K "NoNumber" (some (.ref e9)))(nC:Nn K "NoNote" (some (.ref re)))(wK:Nn K "SeamError" (some (.ref eS)))(q7:PySem.W.excIn K b kt "ValueError.__new__"=true)(M7:Mk K b e0 e1 e2 e3 e4 e5 e6 b e8 e9 re 7)(S7:iX K b eS)(z1:Nn K "len" none)(z2:Nn K "all" none)(z3:Nn K "zip" none)(z4:Nn K "sorted" none)(z5:Nn K "set" none)(z6:Nn K "list" none)(z7:Nn K "tuple" none)(z8:Nn K "range" none)(z9:Nn K "enumerate" none)(ur:Nn K "int" none)(rH:Nn K "isinstance" none)(vP:Nn K "reversed" none)(uB:Nn K "bool" none)(rC:Nn K "dict" none)(wo:Nn K "ValueError" none)(yx:Nn K "sum" none):∃fd:FuncData,(∀(s:Shared)(v:Value),BindsTo s fd ⟨[v],[]⟩ [("script",v)])/\∀base:Heap,K.In base->base.Ns mainGlobals mg->FnOk l.prog w K mg base aw 14 fa fd ["script"] (vb K):=by
 cases yt.symm.trans (qW.m X G);have B:Bt mg:=⟨z1.n X G,z2.n X G,z3.n X G,z4.n X G,z5.n X G,z6.n X G,z7.n X G,z8.n X G,z9.n X G,ur.n X G,rH.n X G,vP.n X G,uB.n X G,rC.n X G⟩;obtain⟨g1,F1,b1,m1⟩:=d1.g1 X G "numbers";obtain⟨g2,F2,y,m2⟩:=d2.g1 X G "piece";obtain⟨g3,F3,z,A⟩:=d3.g1 X G "piece";obtain⟨g4,F4,C,D⟩:=d4.g1 X G "some";obtain⟨g5,r,E,F⟩:=d5.g1 X G "some";obtain⟨g6,F6,b6,m6⟩:=d6.g1 X G "web";obtain⟨g7,F7,b7,m7⟩:=d7.g1 X G "web";obtain⟨g8,f,g,i⟩:=d8.g1 X G "web";obtain⟨g9,F9,b9,m9⟩:=d9.g2 X G "web" "chain";obtain⟨BR,H,rO,l7⟩:=lA.g1 X G "some";obtain⟨yF,I,xR,xB⟩:=su.g2 X G "web" "chain";obtain⟨Bv,J,uW,uK⟩:=wB.g1 X G "terms";obtain⟨BW,L,rK,rE⟩:=wx.g3 X G "web" "other" "names";obtain⟨yE,M,sY,vc⟩:=xJ.g3 X G "web" "other" "names";obtain⟨yN,N,wG,uZ⟩:=yn.g2 X G "names" "piece";obtain⟨y_,j,O,Q⟩:=rQ.g2 X G "names" "piece";obtain⟨yC,S,vg,yq⟩:=tZ.g2 X G "some" "weight";obtain⟨BB,T,wU,wL⟩:=wF.g1 X G "some";obtain⟨z_,vE,se,xM⟩:=wp.g2 X G "point" "some";obtain⟨yK,o,U,Y⟩:=yf.g4 X G "web" "other" "one" "two";obtain⟨Bs,Z,uO,uy⟩:=xO.g3 X G "one" "two" "piece";obtain⟨BZ,qj,vM,x5⟩:=sv.g5 X G "web" "other" "one" "two" "chain";obtain⟨yR,qk,sx,sV⟩:=uz.g3 X G "first" "second" "weight";obtain⟨BT,q9,ww,vA⟩:=rD.g2 X G "script" "k";obtain⟨Br,qB,u5,vt⟩:=xm.g1 X G "cell";obtain⟨yO,a,c,d⟩:=uT.g2 X G "box" "most";obtain⟨B4,uV,yr,xt⟩:=tm.g1 X G "piece";obtain⟨BO,p,pS,ql⟩:=wJ.g1 X G "web";obtain⟨BN,uU,uA,vj⟩:=vk.g1 X G "number";obtain⟨A_,u4,v_,uw⟩:=ut.g2 X G "box" "web";obtain⟨Bp,pH,vD,uM⟩:=sW.g1 X G "box";obtain⟨B0,qy,yp,uP⟩:=xy.g3 X G "box" "known" "high";obtain⟨yV,vf,xi,uX⟩:=yg.g1 X G "x";obtain⟨yX,qI,sj,xD⟩:=wz.g2 X G "found" "due";obtain⟨BU,ud,uN,uI⟩:=xX.g2 X G "piece" "names";obtain⟨BX,qU,vT,u_⟩:=xg.g3 X G "known" "there" "names";obtain⟨BH,qA,we,uq⟩:=rR.g1 X G "box";obtain⟨yT,pU,vZ,rM⟩:=rS.g3 X G "row" "weight" "found";obtain⟨Bz,qv,tM,vI⟩:=sy.g1 X G "e";obtain⟨yH,qr,t9,xV⟩:=yo.g4 X G "known" "there" "one" "two";obtain⟨BI,pV,xh,xW⟩:=vK.g3 X G "one" "two" "chain";obtain⟨BC,qi,vR,xn⟩:=wX.g3 X G "box" "there" "one";obtain⟨yI,qL,xa,x_⟩:=vq.g5 X G "web" "other" "one" "two" "chain";obtain⟨⟨gL,FL⟩,_⟩:=qW;refine⟨gL,?_,fun base _ _=>?_⟩
 ·obtain⟨_,_,_,_,_,_,_,_,_,rfl,_,_⟩:=FL.ex;exact fun s v=>.of_eq rfl
 have o0:=Fg (P:=l.prog) (w:=w) (base:=base) r B F2 y m2 F4 C D F3 z A;have mR:=KM (P:=l.prog) (w:=w) (base:=base) F6 B (gp.m X G) (gq.m X G) (gr.m X G) (gs.m X G) F1 b1 m1 r E F F2 y m2 F4 C D F3 z A;have Gm:=L9 F7 F6 b6 m6 mR;have u:=L_ f F7 b7 m7 Gm r E F o0;have pI:=LD (P:=l.prog) (w:=w) (base:=base) p B uV yr xt;have Go:=Mr (P:=l.prog) (w:=w) (base:=base) H B;have Gi:=Mt F9 B f g i u H rO l7 Go;have wT:=cV I xR xB (Mv I F9 b9 m9 Gi);have Cs:=cV J uW uK (Mz (mg:=mg) (P:=l.prog) (w:=w) (base:=base) J);have Ca:=cV j O Q (GQ (P:=l.prog) (w:=w) (base:=base) j B);have Cr:=cV S vg yq (Ni S B T wU wL (Ng (P:=l.prog) (w:=w) (base:=base) T B (yx.n X G) δ vE se xM));have xF:=cV L rK rE (Nl L B f g i u N wG uZ (M' (P:=l.prog) (w:=w) (base:=base) N B j O Q));have vS:=cV M sY vc (Ou M (q.m X G) q7 xF);have Gb:=Ow o B vS (cV f g i u) (cV Z uO uy (Ot Z B Ca));have Cp:=cV qj vM x5 (OA qj (q.m X G) q7 (cV o U Y Gb) wT (cV qk sx sV (Oz qk B Cr)) Ca Cs);have tE:=OI (P:=l.prog) (w:=w) (base:=base) qv B.isinstance (wo.n X G) (tY.m X G) (xQ.m X G) (ye.m X G) (x6.m X G) (wO.m X G) (vF.m X G) (rT.m X G) (q.m X G) (xH.m X G) (w9.m X G) (nC.m X G);have Ct:=cV a c d (oI (P:=l.prog) (w:=w) (base:=base) a);exact OR FL B (cV q9 ww vA (Lu q9 B)) (cV qB u5 vt (Lw qB)) Ct (cV qA we uq (N2 qA B a c d pH vD uM (LQ pH B a c d u4 v_ uw uU uA vj) p pS ql pI)) (cV p pS ql pI) (cV qi vR xn (OF qi B Ct)) (cV qU vT u_ (Nk (P:=l.prog) (w:=w) (base:=base) qU B ud uN uI)) (cV qy yp uP (Mx qy B a c d)) (cV qL xa x_ (OM qL (wK.m X G) Cp qv tM vI tE M7 S7)) (cV o U Y (OL Gb)) (cV qr t9 xV (OB qr B)) (cV pV xh xW (OC pV B (cV pU vZ rM (NC pU B)))) (cV qI sj xD (NI qI B vf xi uX))
def walk{l:PySem.W.OpenLaw}{q:Program}{g:List Str}{p:(Str->Option Value)->Heap->Prop}{b:World->Heap->Prop}{d:DefRec}{K:Params->Ae}(i:l.most=some 63)(j:d.params.defaults=[])(o:∀(w:World)(h:Heap),b w h->(K w.params).In h)(F:∀(w:World)(mg:Str->Option Value)(fa:Addr)(h:Heap),(K w.params).In h->h.Ns mainGlobals mg->mg d.name=some (.ref fa)->
   ∃fd:FuncData,(∀(s:Shared)(u:Value),BindsTo s fd ⟨[u],[]⟩ [("script",u)])/\∀base:Heap,(K w.params).In base->base.Ns mainGlobals mg->FnOk l.prog w (K w.params) mg base aw 14 fa fd ["script"] (vb (K w.params))):
  PySem.W.WalkO q g p b l.row.toRowW d [] (fun f vs=>PySem.call f vs):=
 L2.DW (n:=63) (k:=14) (x:="script") (CX:=fun _=>aw) (sp:=fun w=>vb (K w.params)) i ξ j ⟨rfl,ξ,ξ⟩ o F (fun _ _ a ns c _ e=>⟨a,ns,rfl,e,c,fun _=>rfl⟩) fun _ _ _ _ _ z=>z
end K56
open PySem PySem.W PyProof.Rows
structure PySem.W.Fast:Prop where
 (tw10022757596315635683 tw10076681027395709877 tw10131956720457958211 tw10184159326124004741 tw10402774782645766180 tw10442155796558237773 tw10451764958382729317 tw10466751977474750694 tw10482715723127842833 tw10509519023726611932 tw10556974583864066091 tw10580123713359108389 tw10612401941266065849 tw10638694258482260171 tw10689903066396781159 tw1070323070404831724 tw10725064964691652183 tw10749064928263377469 tw10750652693231915995 tw10756633286831944556 tw10773018505814324848 tw10801412169808918684 tw10829377701791154243 tw10850031287100533163 tw10861690070046320317 tw10876633489000874901 tw10880425155949863607 tw10886969221412457977 tw10971727234028207603 tw10989543662921949199 tw10994026723387900667 tw11060097021958844894 tw11151844829492257530 tw11230959521953651006 tw11427740108275695944 tw11441397902401386420 tw11503763788662462607 tw11522274196702678043 tw11533568526008950661 tw11582493373792781790 tw11605323933291736072 tw1161940106495300501 tw11664897042905872440 tw11779212280591151236 tw11833122179262660171 tw11868796359041298214 tw11892639067473765835 tw12170660542673519438 tw12197634862790415966 tw1220192836241410773 tw122971841509475328 tw12448216675560356125 tw12473902616117455782 tw12491843981738053132 tw12519510794054652655 tw1265004736326500589 tw12675802225301837516 tw12724142422915720280 tw12743881296692431423 tw12753454353142521007 tw12849510114923275427 tw1287579714788602861 tw12881580350655101551 tw12979776761102993695 tw12989131523312830233 tw13008779767580929256 tw13071674023884569680 tw13103350317159787014 tw13164124635360499419 tw13171860585111964461 tw13185511631497990696 tw13186760214590162387 tw13188223066873251242 tw13213479873813076011 tw13264340577879330706 tw13273479927857546245 tw13316299125505548714 tw13346258274130104006 tw13369847164955181661 tw13419356290987234325 tw13441858888682230051 tw13455030314724117573 tw13461754834604968317 tw1348734803108907346 tw13503173696765274299 tw13513581943432456971 tw13522352582874119778 tw13568749089895081294 tw13589883379748536593 tw13637284787067838769 tw13675398770283612157 tw13675944867746369673 tw13677952439514954756 tw13707866580686185591 tw1376851134242839500 tw13773634463194294270 tw13846925000970171718 tw13855773644052548516 tw13865433833517547069 tw13884973121454588387 tw13895322691214878187 tw13911423518569021160 tw13924883755612671257 tw13927754656123434003 tw13932917835397885352 tw1416448798952881686 tw14206677015571790837 tw1428702078380590502 tw14291369446323976323 tw14324932533417182876 tw14347939900292657872 tw14416772546265956668 tw14494411586237357137 tw14510440157652237415 tw14522070391270062061 tw14558410694607361585 tw14581168728824375075 tw14665488506165168953 tw14691391917080223540 tw14699658914987556617 tw14708933565327845021 tw14709155859704306431 tw14738086497145316398 tw14871139601931936893 tw1487541191943125480 tw14895654133162422919 tw14920737610950265172 tw14941701521257154149 tw14954299756304482603 tw15031957647708390301 tw15075707974961863947 tw15118990409258456906 tw15129760666686509086 tw15138366419381588594 tw15163634984803742585 tw15178610726300112801 tw15223901658125630516 tw15239722134025499144 tw15296025164477960783 tw153425838560118684 tw15432934251140153732 tw15493795913457645590 tw15628269059272004241 tw15692584070573905568 tw15738973767200156416 tw15761727702162261501 tw15870612201396378456 tw15906650221162365400 tw15908303032200250232 tw16006919934000866507 tw16101397285947812996 tw16117637902836696715 tw16169456596059439516 tw1619564573598791656 tw16212970769271866644 tw1621792373013606708 tw16227120418136007644 tw16301355812160799462 tw16309169009068278311 tw16315644550566143424 tw16341039166726557824 tw16402337610578120455 tw1651169967087909484 tw16576102384692072790 tw16611747731305927593 tw16710499455086798170 tw16912240339316260421 tw16914136633584762518 tw16920890013380865428 tw1693967764412947597 tw16955568537423945739 tw17008881388040605933 tw17017498769114389476 tw17036562506335972948 tw17086177121621417290 tw17132262125595043213 tw17139930913547170701 tw17159122625817177725 tw17236961945981930450 tw17272682685010291531 tw17458710404117302320 tw17486694907487266361 tw17529129998367761299 tw17541790410171841550 tw17547802239460537505 tw17582471275792944639 tw17600471654271342590 tw17666011427771966849 tw17711273912945741892 tw17738391457633870648 tw17757733519892737530 tw17784757087796222680 tw1785230279490097976 tw17861096832306087096 tw17871692480453894467 tw17890149586612949636 tw17898339470257032078 tw17899689347983690879 tw1802837478123761947 tw18095154679809994952 tw18102288399896132278 tw18128690422789191670 tw18209394176304601419 tw18294036888661517975 tw18322765160143794203 tw18362623741708549835 tw18368822063100902664 tw18417955441004407491 tw18431630801938579574 tw18438827073528454924 tw1957615392585518300 tw2018951029878022076 tw2044061181824803032 tw2046787041610112253 tw2078648707787388577 tw2125353410730920106 tw2133301836351395069 tw2228780119424248925 tw2240340432011587037 tw2257442091984561701 tw230579654922347156 tw2368356038293173669 tw2383345903944756364 tw2410451473343094668 tw2451652451824778333 tw2505843550546994506 tw2510929915867047704 tw2583135947940033704 tw266928049300796939 tw2679791418942440848 tw2735922721693832992 tw2742265557054411704 tw2797893698849668841 tw2814008696489457895 tw2847350789541086449 tw2869406853521747372 tw2935764880731853583 tw2949039729648431453 tw3037172407600810864 tw3126822248355324930 tw3182764614549032154 tw3192926333924416937 tw3216174683431811683 tw3259663101394905960 tw3303656097240827027 tw331239536243054592 tw3317255658087000923 tw3369773575325244048 tw3380781711416273624 tw3419728200750683208 tw3430279976625349570 tw3441991006596981293 tw3443062583198392611 tw3477590519031533619 tw3486390192885090957 tw3559201778823071367 tw356743751936855062 tw3626769181847641429 tw3640753834912467588 tw3655644131954245815 tw3663619519679748171 tw3696977347831513973 tw3779942244079571172 tw3814812486993639582 tw3875048065366931729 tw3912228212129922242 tw3959556526430037991 tw3973941205272074811 tw4085765991547139455 tw4097005844061835476 tw4133911870684604559 tw4159045883005858882 tw4186751399706140242 tw4197846611513533095 tw4237771165381295840 tw4243056366632376009 tw4261915019034059354 tw4285211088137555222 tw4298977534352043375 tw4366920339269504285 tw4383280857359759012 tw438825831966654294 tw4448838918328715173 tw4492896846390802311 tw4548379724931020237 tw4576006037344717816 tw4662588321282511413 tw4721065803090772120 tw47331600789840388 tw48227905137529165 tw4828992547352771739 tw4852291360896550892 tw486342602282494996 tw4919706900130182751 tw4933689106034458670 tw4963751462569208607 tw5048043854406744617 tw5099222641617675823 tw5152822087797923541 tw515654385557538086 tw5157822218805383443 tw5203606358202344744 tw5233908364654845093 tw525665579958957444 tw5288940404445945890 tw5303453679052659300 tw5339707942620586954 tw5344540003731496288 tw5368583494492526988 tw5432010595575599018 tw5537822602738095151 tw5603289608263461861 tw5625594638043456060 tw5646136768986087525 tw5654322126563925745 tw5671977742803338102 tw5764974892841573736 tw5806712994184434516 tw5828452722146505034 tw5839588627264525118 tw5853037283711258058 tw5854535093265732944 tw5858972824900571261 tw5950126069493732247 tw5950420847546458719 tw5996222371301557010 tw6096459358819900921 tw6121860040703300117 tw6122453429586150146 tw6190449239600815773 tw6194958000457190114 tw6202700602525688346 tw6329293132893603791 tw6360044252200055306 tw6381811061977077717 tw6410396989471174986 tw6456758421149609101 tw6545235053713969948 tw663935075990099244 tw66595633255013914 tw666013511074068461 tw6711242305307403234 tw6711736263868266636 tw6771503774120426320 tw6823236895250827517 tw688073313211623563 tw6913158719691509487 tw692981879883393098 tw6935164014503105925 tw6941486050204603601 tw695995838776359312 tw6975393586103988703 tw7001174109069969 tw7050470857002199281 tw7085037289497492061 tw7194699510425865510 tw7216858345731957521 tw728998067596323914 tw7334836373282492521 tw7353111253451104748 tw7398195579607266238 tw7400053460065497568 tw7460497789479192773 tw7530441802867738312 tw7539216328284819718 tw754706027887313436 tw7567089142863944763 tw7577463524706047170 tw7600880662411640200 tw7616658402618884296 tw7629389901696446957 tw7639279819345357985 tw7743225032629891767 tw776540218277048902 tw7826422214192424372 tw791830756917079878 tw8008407138676863194 tw8036576967355857097 tw8040126405525529765 tw807000158713697453 tw8096291300259100695 tw8152933116820784961 tw8156472406717391454 tw8179558524934158804 tw8303855171008394933 tw8353200841518916509 tw8354493782536851583 tw8411600269521877499 tw8484258048905803025 tw850864805852706443 tw8598954983479291762 tw8637273760778186102 tw8661275147708461500 tw8667213384844999563 tw8858891328456795351 tw9032181773869360720 tw9047754836984747763 tw9123764544681588028 tw9135452146291655684 tw9162610173716375798 tw9209295796594610518 tw9234123686389126978 tw9239047036130445995 tw924066241946333596 tw9264273312802518320 tw929062663940627074 tw9307048510100972431 tw9308064585498016238 tw9364340784852819067 tw9441407168043570781 tw946508099141333883 tw9550063549853921250 tw9557937286324863688 tw9593521005736741016 tw9609008754543510289 tw9630595573482020728 tw9691154872991737361 tw9695952547202996468 tw9782921815966145012 tw9804937541464186034 tw9823799208087791726 tw9824420927002736942 tw9833314749484309154 tw9928369187058394990 tw9955143338362440627 tw9971794296103218898 tw9972450263074202484:True)
set_option maxRecDepth 100000 in
set_option maxHeartbeats 0 in
theorem PySem.Challenge.cw_seamwright_k56_side_by_side_and_prisms_holds : PySem.Challenge.rw_seamwright_k56_side_by_side_and_prisms.Holds := by
 w_on; o_law; k_head; (case hw=>w_witness2)
 k_fill
 refine K56.walk (l:=PySem.Challenge.rw_seamwright_k56_side_by_side_and_prisms) rfl rfl (fun w h Y=>PySem.W.kIn_of Y) ?F
 case F=>
  intro w mg fa h KX G iQ;refine' K56.OS KX G iQ ?_ ?_ ?_ ?_ ?_ ?_ ?_ ?_ ?_ ?_ ?_ ?_ ?_ ?_ ?_ ?_ ?_ ?_ ?_ ?_ ?_ ?_ ?_ ?_ ?_ ?_ ?_ ?_ ?_ ?_ ?_ ?_ ?_ ?_ ?_ ?_ ?_ ?_ ?_ ?_ ?_ ?_ ?_ ?_ ?_ ?_ ?_ ?_ ?_ ?_ ?_ ?_ ?_ ?_ ?_ ?_ ?_ ?_ ?_ ?_ ?_ ?_ ?_ ?_ ?_ ?_ ?_ ?_ ?_ ?_ ?_ ?_ ?_ ?_ ?_ ?_ ?_ ?_ ?_
  all_goals try first | refine' L2.CW ?_ ?_ ?_ ?_ | refine' L2.Nn.mk ?_ | refine' K56.OG ?_ ?_ ?_ ?_ ?_ ?_ ?_ ?_ ?_ ?_ ?_ ?_ ?_ ?_ ?_ ?_ ?_ ?_ ?_ ?_ | refine' L2.Oo ?_ ?_ ?_
  all_goals try first | k_is | kit_is | k_exc
#print axioms PySem.Challenge.cw_seamwright_k56_side_by_side_and_prisms_holds
end
