import PyProof.Rows.All
import Wide.All
import OpenK.AllK
import Wide.FinOn
import Lean
import PyProof.EqAt
import PyProof.EqKinds
import PyProof.TupleCall
import PyProof.Rows.SortRuns
import KE.KSortKey
import KE.KListMore
import KE.KIntText
import KE.KEqDat
import PyProof.Rows.CallKwBuiltin
import PySem.SetTable
import PyProof.Rows.SetFrom
import PyProof.TupleKey
import PyProof.IsRules
import KE.KRevIter
import PyProof.ListRange
import PyProof.TupleOfGen
import PyProof.CollectIter
import PySem.Challenge.RW_seamwright_k63_orders_by_worths
import PyProof.FactsAll.set_2
import PyProof.FactsAll.subtypes_5
import KE.KDictList
import KE.KDictSum
import PyProof.StationsW
import PyProof.ExcClass3
import OpenK.KOwn
import PyProof.ExcArgsOwn
import PyProof.MinMaxWalk
import PyProof.SumAny
import KE.KLam
import KE.KDictLaws
import PyProof.DictWalks
import PyProof.SetNew
import PyProof.DictCopy
import PyProof.FactsAll.dict_1
import PyProof.DictFindH
import PyProof.NeKinds
import KE.KEqDict
import PyProof.DictItems
import PyProof.MeetsDictList
import PyProof.AttrMissHeap
open PySem renaming wpAny_bind->Aa,wpAny_pure->Ac,tupleKeyHash->Aq,wpAny_dictEntries->AH,wpAny_holding->AI,IsTupleKey->AJ,sysModules->AU,wpAny_call_entry->A0,bootBuiltins->A5,wpAny_field->A6,wpAny_mono->A9,codeAny_mono->Bc,wpAny_setState_of->Bd,compareOp->Bg,codeAny_builtin->Bh,wpAny_newObj_type->Bj
open List renaming length_map->Ab,getElem?_eq_getElem->Af,size_toArray->Ai,getElem?_map->Ak,map_map->Am,mem_of_getElem?->An,map_append->Av,length_cons->Aw,take_of_length_le->Ax,mem_cons_of_mem->Ay,mem_cons_self->AB,length_append->AC,map_cons->AE,getD_eq_getElem?_getD->AL,length_take->AM,map_congr_left->AO,pairwise_map->AW,lookup_cons->AY,getElem_mem->A1,range->Bb
open PySem.Heap renaming get?_push_of_some->Ad,lt_size->Ao,get?_push_size->Ar,SameBut->AR,size_update->A4
open PySem.W renaming Frag->Ae,kitOne->Ba
open Nat renaming le_refl->Ah,ne_of_lt->Ap,lt_of_lt_of_le->Az,le_trans->AF,zero_le->AK
open Bool renaming false_eq_true->Aj,false_ne_true->Au,and_eq_true->AN,not_true->Bf
open Option.some renaming inj->Al
open PySem.Obj renaming mapSeq->AA
open Array renaming length_toList->AQ,getElem?_toList->AT
open PySem.Heap.SameBut renaming update->AS
open PySem.PyData renaming int->AV
open PyProof.Rows renaming take_snoc->AX,pendingOf->AZ
open PySem.Paired renaming length->A7
open PySem.PassesOwn renaming never->A8
open False renaming elim->Be
open PySem.NameKind renaming free->Bi
open Int renaming le_refl->Bk
set_option linter.all false
set_option Elab.async false
set_option maxRecDepth 100000
set_option maxHeartbeats 4000000
def δ{p:Prop}(h:p:=by decide +kernel):p:=h
def ω{p:Prop}(h:p:=by omega):p:=h
def ξ{p:Prop}(h:p:=by decide):p:=h
abbrev Ω:=PySem.Value->PySem.Shared->Prop
abbrev Ξ:=List (List Int)
abbrev Ψ:=List (PySem.Addr×PySem.Obj)
local macro_rules|`($s⁻¹)=>`(($s).heap.objs.size)
section
namespace L2
open PySem PySem.Spec PyProof.Rows
abbrev Key:=Sum Int Str
def i9:Key->Value->Bool
 |.inl k,v=>Value.isInt k v
 |.inr x,v=>Value.isStrOf x v
def qM(w:World):Key->Int
 |.inl k=>hashInt k
 |.inr x=>hashStr w x
def ax:∀{k:Key}{v:Value},i9 k v=true->(∃i t,k=Sum.inl i/\v=Value.int i t)\/(∃x t,k=Sum.inr x/\v=Value.str x t)
 |.inl i,v,h=>by
  obtain⟨t,e⟩:=Value.isInt_shape (k:=i) (v:=v) h;exact .inl ⟨i,t,rfl,e⟩
 |.inr x,v,h=>by
  obtain⟨t,e⟩:=Value.isStrOf_shape (x:=x) (v:=v) h;exact .inr ⟨x,t,rfl,e⟩
def CF(i:Int)(t:Tok):i9 (.inl i) (.int i t)=true:=by simp[i9,Value.isInt]
def CG(x:Str)(t:Tok):i9 (.inr x) (.str x t)=true:=by simp[i9,Value.isStrOf]
def CH(a b:Int):decide ((Sum.inl a:Key)=Sum.inl b)=(a==b):=by
 by_cases e:a=b
 ·subst e;simp
 ·have h:¬(Sum.inl a:Key)=Sum.inl b:=fun q=>e (Sum.inl.inj q)
  rw[decide_eq_false h];exact(beq_eq_false_iff_ne.mpr e).symm
def CI(a b:Str):decide ((Sum.inr a:Key)=Sum.inr b)=decide (a=b):=by
 by_cases e:a=b
 ·subst e;simp
 ·have h:¬(Sum.inr a:Key)=Sum.inr b:=fun q=>e (Sum.inr.inj q)
  rw[decide_eq_false h,decide_eq_false e]
def CJ(a:Int)(b:Str):decide ((Sum.inl a:Key)=Sum.inr b)=false:=decide_eq_false (fun q=>nomatch q)
def CK(a:Str)(b:Int):decide ((Sum.inr a:Key)=Sum.inl b)=false:=decide_eq_false (fun q=>nomatch q)
def zo(prog:Program)(w:World):PySem.KeyKind prog w Key where
 is:=i9
 hash:=qM w
 inj:=fun v a b d hb=>by
  rcases ax d with ⟨i,t,rfl,rfl⟩|⟨x,t,rfl,rfl⟩
  ·rcases ax hb with ⟨j,u,rfl,e⟩|⟨y,u,rfl,e⟩
   ·injection e with e1 _;rw[e1]
   ·exact nomatch e
  ·rcases ax hb with ⟨j,u,rfl,e⟩|⟨y,u,rfl,e⟩
   ·exact nomatch e
   ·injection e with e1 _;rw[e1]
 byValue:=fun k v h=>by
  rcases ax h with ⟨i,t,rfl,rfl⟩|⟨x,t,rfl,rfl⟩<;>rfl
 pyHash:=fun c h=>by
  rcases ax c with ⟨i,t,rfl,rfl⟩|⟨x,t,rfl,rfl⟩
  ·exact wpAny_pyHash_int h
  ·exact wpAny_pyHash_str h
 eqBool:=fun hu c h=>by
  rcases ax hu with ⟨i,t,rfl,rfl⟩|⟨x,t,rfl,rfl⟩
  ·rcases ax c with ⟨j,u,rfl,rfl⟩|⟨y,u,rfl,rfl⟩
   ·rw[CH] at h;exact wpAny_eqBool_int h
   ·rw[CJ] at h;exact SeqAt.EqAt.int_str i t y u _ _ _ _ h
  ·rcases ax c with ⟨j,u,rfl,rfl⟩|⟨y,u,rfl,rfl⟩
   ·rw[CK] at h;exact SeqAt.EqAt.str_int x t j u _ _ _ _ h
   ·rw[CI] at h;exact wpAny_eqBool_str h
 «strs»:=fun k x t v h=>by
  rcases ax h with ⟨i,u,rfl,e⟩|⟨y,u,rfl,e⟩
  ·exact nomatch e
  ·injection e with e1 _
   subst e1;cases v<;>rfl
def m_(prog:Program)(w:World)(i:Int)(t:Tok):(zo prog w).is (.inl i) (.int i t)=true:=CF i t
def CL(prog:Program)(w:World)(x:Str)(t:Tok):(zo prog w).is (.inr x) (.str x t)=true:=CG x t
inductive V where
 |non|bl (b:Bool)|int (i:Int)|str (x:Str)|byt (b:Array UInt8)|flt (b:UInt64)|ref (a:Addr)|ty (n:String)
 deriving DecidableEq
def RelV:V->Value->Prop
 |.non,u=>u=Value.none
 |.bl b,u=>u=Value.bool b
 |.int i,u=>∃t,u=Value.int i t
 |.str x,u=>∃t,u=Value.str x t
 |.byt b,u=>∃t,u=Value.bytes b t
 |.flt b,u=>∃t,u=Value.float b t
 |.ref a,u=>u=Value.ref a
 |.ty n,u=>u=Value.type n
abbrev Vals:List V->List Value->Prop:=Paired RelV
def Vals.length{xs:List V}{us:List Value}(r:Vals xs us):xs.length=us.length:=A7 r
def Vals.get:∀{xs:List V}{us:List Value}{i:Nat}{x:V},Vals xs us->xs[i]?=some x->∃u,us[i]?=some u/\RelV x u
 |_,_,_,_,.nil,e=>by simp at e
 |_,_,0,_,.cons r _,e=>by simp at e;subst e;exact⟨_,rfl,r⟩
 |_,_,i+1,x,.cons _ t,e=>by
  obtain⟨u,h1,h2⟩:=Vals.get (i:=i) (x:=x) t (by simpa using e);exact⟨u,by simpa using h1,h2⟩
def Vals.set{x:V}{u:Value}(r:RelV x u):∀{xs:List V}{us:List Value}(i:Nat),Vals xs us->Vals (xs.set i x) (us.set i u)
 |_,_,_,.nil=>.nil
 |_,_,0,.cons _ t=>.cons r t
 |_,_,i+1,.cons q t=>.cons q (Vals.set r i t)
def Vals.append{xs ys:List V}{us a:List Value}(h:Vals xs us)(g:Vals ys a):Vals (xs++ys) (us++a):=by
 induction h with
 |nil=>exact g
 |cons r _ ih=>exact .cons r ih
def Vals.take:∀{xs:List V}{us:List Value}(n:Nat),Vals xs us->Vals (xs.take n) (us.take n)
 |_,_,0,_=>.nil
 |_,_,_+1,.nil=>.nil
 |_,_,n+1,.cons r t=>.cons r (Vals.take n t)
def Vals.drop:∀{xs:List V}{us:List Value}(n:Nat),Vals xs us->Vals (xs.drop n) (us.drop n)
 |_,_,0,r=>r
 |_,_,_+1,.nil=>.nil
 |_,_,n+1,.cons _ t=>Vals.drop n t
def RelO:Option V->Option Value->Prop
 |some v,some u=>RelV v u
 |none,none=>True
 |_,_=>False
def KV{κ:Type}:List (κ×V)->List (κ×Value)->Prop:=Paired fun(p:κ×V)(q:κ×Value)=>p.1=q.1/\RelV p.2 q.2
def kV:Key->V
 |.inl i=>.int i
 |.inr x=>.str x
inductive HO where
 |lst (xs:List V)
 |tup (xs:List V)
 |dK (kvs:List (Key×V))|dT (kvs:List (List Key×V))
 |set (S:Int->Bool) (n:Nat)
 |ins (C dx:Addr) (fs:List (Str×V))
 |own (x:Addr)
 |xd (fs:List (Str×V))
 |met (f x:Addr)
 |rng (lo hi:Int)
 |frz (o:Obj) (u:HO)
 |tbl (ps:Array Value)
 |ext (φ:Heap->Prop)
abbrev Hp:=Addr->Option HO
def upd(H:Hp)(a:Addr)(o:HO):Hp:=fun b=>if b=a then some o else H b
def za{H:Hp}{a:Addr}{o:HO}:upd H a o a=some o:=by unfold upd;rw[if_pos rfl]
def zh{H:Hp}{a b:Addr}{o:HO}(h:b≠a):upd H a o b=H b:=by unfold upd;rw[if_neg h]
def e8{H:Hp}{a b:Addr}{o u:HO}(h:H a=some o)(h':H b=some u)(d:o≠u):a≠b:=by
 intro e;subst e;rw[h] at h';exact d (Al h')
def zl{H:Hp}{a b:Addr}{o:HO}(h:H a=some o)(h':H b=none):a≠b:=by
 intro e;subst e;rw[h] at h';cases h'
section
variable(P:Program)(w:World)
def zC(H:Hp)(h:Heap)(a:Addr):HO->Prop
 |.lst xs=>xs.length<=sizeLine/\∃(b:List Value)(n:Nat),Vals xs b/\h.get? a=some {cls:=.type "list",data:=.seq b.toArray n}
 |.tup xs=>xs.length<=sizeLine/\∃b:List Value,Vals xs b/\IsTup h a b.toArray
 |.dK kvs=>kvs.length<=sizeLine/\(a==AU)=false/\∃vs,KV kvs vs/\h.DictOf (zo P w) a vs
 |.dT kvs=>kvs.length<=sizeLine/\(a==AU)=false/\∃xs:List (List Key×Addr×Value),
   Paired (fun(p:List Key×V)(q:List Key×Addr×Value)=>p.1=q.1/\H q.2.1=some (.tup (p.1.map kV))/\RelV p.2 q.2.2) kvs xs/\
   ∃o es ep,h.get? a=some o/\o.ExactDict/\o.data=.dict es ep/\es.toList=xs.map (entryOfKey (tupleKind (zo P w)))/\(xs.map (·.1)).Nodup
 |.set S n=>h.SetOf (intKind P w) a S n
 |.ins C dx fs=>H dx=some (.own a)/\fs.length<=1000/\dx≠a/\h.get? a=some (PySem.W.instObj C dx)/\
   ∃mA,h.Ns1 dx mA/\(∀f,RelO (fs.lookup f) (mA f))/\PySem.Within mA (fs.map (·.1))
 |.own _=>∃o,h.get? a=some o
 |.xd fs=>∃mA,h.Ns1 a mA/\∀f,RelO (fs.lookup f) (mA f)
 |.rng lo hi=>∃t u v,h.get? a=some {cls:=.type "range",data:=.fields #[.int lo t,.int hi u,.int 1 v]}
 |.frz o u=>h.get? a=some o/\zC H h a u
 |.tbl ps=>h.get? a=some {cls:=.none,data:=.fields ps}
 |.met f x=>h.get? a=some (PySem.W.methodObj (.ref f) (.ref x))
 |.ext φ=>φ h/\(∃o,h.get? a=some o)/\∀h1 h2:Heap,φ h1->(∀o,h1.get? a=some o->h2.get? a=some o)->φ h2
def HOk(H:Hp)(h:Heap):Prop:=∀a o,H a=some o->zC P w H h a o
end
section
variable{P:Program}{w:World}{H H':Hp}{h h':Heap}{a:Addr}{o:HO}
def zC.lt(x:zC P w H h a o):a<h.objs.size:=by
 cases o with
 |lst xs=>obtain⟨_,_,_,_,e⟩:=x;exact Ao e
 |tup xs=>obtain⟨_,_,_,p⟩:=x;exact p.lt
 |dK kvs=>obtain⟨_,_,_,_,o,_,_,e,_⟩:=x;exact Ao e
 |dT kvs=>obtain⟨_,_,_,_,o,_,_,e,_⟩:=x;exact Ao e
 |set S n=>obtain⟨o,_,_,_,e,_⟩:=x;exact Ao e
 |ins C dx fs=>obtain⟨_,_,_,e,_⟩:=x;exact Ao e
 |own y=>obtain⟨_,e⟩:=x;exact Ao e
 |xd fs=>obtain⟨_,⟨_,_,_,e,_⟩,_⟩:=x;exact Ao e
 |rng lo hi=>obtain⟨_,_,_,e⟩:=x;exact Ao e
 |frz ob u=>obtain⟨e,_⟩:=x;exact Ao e
 |tbl ps=>exact Ao (show h.get? a=some _ from x)
 |met f y=>exact Ao (show h.get? a=some _ from x)
 |ext φ=>obtain⟨_,⟨_,e⟩,_⟩:=x;exact Ao e
def Paired.mapP{c d:Type}{F G:c->d->Prop}{l₁:List c}{l₂:List d}(h:Paired F l₁ l₂)(f:∀a b,F a b->G a b):Paired G l₁ l₂:=by
 induction h with
 |nil=>exact .nil
 |cons r _ ih=>exact .cons (f _ _ r) ih
def zC.stay(x:zC P w H h a o)(k:∀b u,(b=a\/H b=some (.own a))->h.get? b=some u->h'.get? b=some u)(j:∀b,H b=some (.own a)->H' b=some (.own a))(l:∀b xs,H b=some (.tup xs)->H' b=some (.tup xs)):zC P w H' h' a o:=by
 induction o with
 |lst xs=>obtain⟨z,g,n,r,e⟩:=x;exact⟨z,g,n,r,k _ _ (.inl rfl) e⟩
 |tup xs=>obtain⟨z,g,r,ob,e,c⟩:=x;exact⟨z,g,r,ob,k _ _ (.inl rfl) e,c⟩
 |dK kvs=>obtain⟨z,y,vs,r,ob,es,ep,e,c⟩:=x;exact⟨z,y,vs,r,ob,es,ep,k _ _ (.inl rfl) e,c⟩
 |dT kvs=>
  obtain⟨z,y,xs,r,ob,es,ep,e,c⟩:=x;exact⟨z,y,xs,Paired.mapP r fun p q z=>⟨z.1,l _ _ z.2.1,z.2.2⟩,ob,es,ep,k _ _ (.inl rfl) e,c⟩
 |set S n=>obtain⟨ob,es,ep,t,e,c⟩:=x;exact⟨ob,es,ep,t,k _ _ (.inl rfl) e,c⟩
 |ins C dx fs=>
  obtain⟨d,z,ne,e,mA,⟨i,es,ep,e2,c⟩,r⟩:=x;exact⟨j _ d,z,ne,k _ _ (.inl rfl) e,mA,⟨i,es,ep,k _ _ (.inr d) e2,c⟩,r⟩
 |own y=>obtain⟨ob,e⟩:=x;exact⟨ob,k _ _ (.inl rfl) e⟩
 |xd fs=>obtain⟨mA,⟨i,es,ep,e,c⟩,r⟩:=x;exact⟨mA,⟨i,es,ep,k _ _ (.inl rfl) e,c⟩,r⟩
 |rng lo hi=>obtain⟨t,u,v,e⟩:=x;exact⟨t,u,v,k _ _ (.inl rfl) e⟩
 |frz ob u ih=>obtain⟨e,q⟩:=x;exact⟨k _ _ (.inl rfl) e,ih q⟩
 |tbl ps=>
  have e:h.get? a=some {cls:=.none,data:=.fields ps}:=x;show h'.get? a=some {cls:=.none,data:=.fields ps};exact k a _ (.inl rfl) e
 |met f y=>
  have e:h.get? a=some (PySem.W.methodObj (.ref f) (.ref y)):=x;show h'.get? a=some (PySem.W.methodObj (.ref f) (.ref y));exact k a _ (.inl rfl) e
 |ext φ=>obtain⟨p,⟨o,e⟩,st⟩:=x;exact⟨st _ _ p fun o q=>k _ _ (.inl rfl) q,⟨o,k _ _ (.inl rfl) e⟩,st⟩
def HOk.lt(x:HOk P w H h)(e:H a=some o):a<h.objs.size:=(x a o e).lt
def HOk.fresh(x:HOk P w H h)(e:h.objs.size<=a):H a=none:=by
 cases q:H a with
 |none=>rfl
 |some u=>exact absurd (Az (x.lt q) e) (Nat.lt_irrefl _)
def HOk.kept(x:HOk P w H h)(k:∀b u,h.get? b=some u->h'.get? b=some u):HOk P w H h':=fun a o e=>
 (x a o e).stay (fun b u _ q=>k b u q) (fun _ q=>q) fun _ _ q=>q
def HOk.laid(x:HOk P w H h)(k:∀b u,h.get? b=some u->h'.get? b=some u)(hp:h.objs.size<=a)(new:zC P w (upd H a o) h' a o):HOk P w (upd H a o) h':=fun b u e=>by
 have d:=x.fresh hp
 by_cases hb:b=a
 ·subst hb;rw[za] at e;cases e;exact new
 ·rw[zh hb] at e
  exact(x b u e).stay (fun c v _ q=>k c v q) (fun c q=>by rw[zh (zl q d)];exact q) fun c xs q=>by rw[zh (zl q d)];exact q
end
def Rd(H:Hp)(a:Addr)(u:HO):Prop:=H a=some u\/∃o,H a=some (.frz o u)
def Rd.of{H:Hp}{a:Addr}{u:HO}(h:H a=some u):Rd H a u:=.inl h
def Rd.ok{P:Program}{w:World}{H:Hp}{h:Heap}{a:Addr}{u:HO}(r:Rd H a u)(x:HOk P w H h):zC P w H h a u:=by
 rcases r with r|⟨o,r⟩
 ·exact x a u r
 ·obtain⟨_,q⟩:=x a _ r
  exact q
def kG:Option HO->Prop
 |some (.lst _)=>True
 |some (.dK _)=>True
 |some (.dT _)=>True
 |some (.set _ _)=>True
 |some (.ins _ _ _)=>True
 |some (.ext _)=>True
 |_=>False
section
variable{P:Program}{w:World}{H:Hp}{h h':Heap}{x e:Addr}{o':HO}
def HOk.write(ok:HOk P w H h)(g:kG (H x))(he:e=x\/H e=some (.own x))(k:∀b u,b≠e->h.get? b=some u->h'.get? b=some u)(l:∃u,h'.get? e=some u)(new:zC P w (upd H x o') h' x o'):HOk P w (upd H x o') h':=fun b u q=>by
 have d:∀c y,H c=some (.own y)->c≠x:=fun c y r z=>by subst z;rw[r] at g;exact g
 have f:∀c xs,H c=some (.tup xs)->c≠x:=fun c xs r z=>by subst z;rw[r] at g;exact g
 by_cases hb:b=x
 ·subst hb;rw[za] at q;cases q;exact new
 ·rw[zh hb] at q
  by_cases a:b=e
  ·have i:H b=some (.own x):=by
    rcases he with z|z
    ·exact absurd (a.trans z) hb
    ·rw[a];exact z
   rw[q] at i;cases i;obtain⟨v,j⟩:=l;exact⟨v,by rw[a];exact j⟩
  ·refine(ok b u q).stay (fun c v hc r=>k c v ?_ r) (fun c r=>by rw[zh (d c b r)];exact r) fun c xs r=>by rw[zh (f c xs r)];exact r
   rcases hc with rfl|hc
   ·exact a
   ·rintro rfl
    rcases he with z|z
    ·exact d c b hc z
    ·rw[hc] at z;cases z;exact hb rfl
end
structure Un(fs ex:List Addr)(H H':Hp)(h h':Heap):Prop where
 keep:∀b o,h.get? b=some o->H b=none->b∉fs->b∉ex->h'.get? b=some o
 slot:∀b o,h.get? b=some o->H b=none->b∈fs->b∉ex->∃sl,h'.get? b=some {o with slots:=sl}
 free:∀b o,h.get? b=some o->H b=none->b∉ex->H' b=none
 there:∀b o,h.get? b=some o->b∉ex->∃o',h'.get? b=some o'
 tups:∀b xs,H b=some (.tup xs)->H' b=some (.tup xs)
 frzs:∀b o u,H b=some (.frz o u)->H' b=some (.frz o u)
 tbls:∀b ps,H b=some (.tbl ps)->∃more,H' b=some (.tbl (ps++more))
section
variable{fs rT ex wf:List Addr}{H H1 H2:Hp}{h h1 h2 h':Heap}{a x e:Addr}{o:HO}
def Un.any(u:Un fs ex H H1 h h1){b:Addr}{ob:Obj}(q:h.get? b=some ob)(n:H b=none)(hx:b∉ex):∃a,h1.get? b=some {ob with slots:=a}:=by
 by_cases hb:b∈fs
 ·exact u.slot b ob q n hb hx
 ·exact⟨ob.slots,u.keep b ob q n hb hx⟩
def Un.kept(k:∀b u,h.get? b=some u->h'.get? b=some u):Un fs ex H H h h':=
 ⟨fun b ob q _ _ _=>k b ob q,fun b ob q _ _ _=>⟨ob.slots,k b ob q⟩,fun _ _ _ n _=>n,fun b ob q _=>⟨ob,k b ob q⟩,fun _ _ q=>q,fun _ _ _ q=>q,fun _ ps q=>⟨#[],by rw[q];simp⟩⟩
def Un.refl:Un fs ex H H h h:=Un.kept fun _ _ q=>q
def Un.laid(k:∀b u,h.get? b=some u->h'.get? b=some u)(hp:h.objs.size<=a)(c:H a=none):Un fs ex H (upd H a o) h h' where
 keep:=fun b u q _ _ _=>k b u q
 slot:=fun b u q _ _ _=>⟨u.slots,k b u q⟩
 free:=fun b u q n _=>by rw[zh (Ap (Az (Ao q) hp))];exact n
 there:=fun b u q _=>⟨u,k b u q⟩
 tups:=fun b xs q=>by rw[zh (zl q c)];exact q
 frzs:=fun b u xs q=>by rw[zh (zl q c)];exact q
 tbls:=fun b ps q=>⟨#[],by rw[zh (zl q c),q];simp⟩
def Un.write(c:kG (H x))(he:e=x\/H e=some (.own x))(k:∀b u,b≠e->h.get? b=some u->h'.get? b=some u)(d:∃u,h'.get? e=some u):Un fs ex H (upd H x o) h h':=by
 have hx:∀b,H b=none->b≠x:=fun b n z=>by subst z;rw[n] at c;exact c
 have hb:∀b,H b=none->b≠e:=fun b n z=>by
  subst z;rcases he with r|r
  ·exact hx b n r
  ·rw[n] at r;cases r
 have hm:∀b u,H b=some u->¬kG (some u)->b≠x:=fun b u q nm z=>by subst z;rw[q] at c;exact nm c
 refine⟨fun b u q n _ _=>k b u (hb b n) q,fun b u q n _ _=>⟨u.slots,k b u (hb b n) q⟩,fun b u q n _=>by rw[zh (hx b n)];exact n,fun b u q _=>?_,
  fun b xs q=>by rw[zh (hm b _ q fun z=>z)];exact q,fun b u xs q=>by rw[zh (hm b _ q fun z=>z)];exact q,fun b ps q=>⟨#[],by rw[zh (hm b _ q fun z=>z),q];simp⟩⟩
 by_cases a:b=e
 ·subst a;exact d
 ·exact⟨u,k b u a q⟩
end
def nf(h:Heap)(H:Hp):List Addr:=(Bb h.objs.size).filter fun a=>(H a).isSome
def bv(h:Heap)(H:Hp):Heap:=PySem.W.hideAll h (nf h H)
def w_(h:Heap)(H:Hp):(bv h H).objs.size=h.objs.size:=PySem.W.hideAll_size _ _
def xa{h:Heap}{H:Hp}{b:Addr}{o:Obj}(e:h.get? b=some o)(n:H b=none):(bv h H).get? b=some o:=
 PySem.W.hideAll_get _ e fun hm=>by
  have q:(H b).isSome=true:=(List.mem_filter.mp hm).2;rw[n] at q;simp at q
def xb{h:Heap}{H:Hp}{b:Addr}{o:Obj}(e:(bv h H).get? b=some o):h.get? b=some o/\H b=none:=by
 have e':h.get? b=some o:=PySem.W.of_hideAll (nf h H) e;refine⟨e',?_⟩;cases q:H b with
 |none=>rfl
 |some x=>
  have hm:b∈nf h H:=List.mem_filter.mpr ⟨List.mem_range.mpr (Ao e'),by simp[q]⟩;have z:(bv h H).get? b=none:=PySem.W.hideAll_none (nf h H) hm;rw[z] at e;cases e
def CM(g h:Heap)(L:Addr):Ψ:=(Bb h.objs.size).filterMap fun a=>if a=L\/(g.get? a).isSome=true then none else(h.get? a).map fun o=>(a,o)
def rest(g h:Heap)(L d:Addr):Ψ:=(CM g h L).filter fun p=>decide (p.1≠d)
structure Mod(K:Ae)(mg:Str->Option Value)(base:Heap):Prop where
 kin:K.In base
 glob:base.Ns mainGlobals mg
 blt:∃mb,base.Ns builtinsNs mb/\∀x:Str,x≠"__name__"->mb x=A5 x
 nolimit:base.NoLimit
structure Cx where
 prog:Program
 w:World
 K:Ae
 mg:Str->Option Value
 base:Heap
 A:Around
 N:List Str
 s₀:Shared
 H₀:Hp
 env:Env
 outer:List Env
 stack:List Env
 ex:List Addr
 fn:Str->Bool
 calm:Bool
 pn:Ψ
 xe:Ω
def frs(l:List Env):List Addr:=l.filterMap (·.frame)
abbrev Cx.fs(X:Cx):List Addr:=frs X.outer
def kH(sc:Scope)(x:Str):Prop:=sc.names.lookup x=some .local\/sc.names.lookup x=some .cell\/sc.names.lookup x=some .free
def Loc(sc:Scope)(x:Str):Prop:=sc.names.lookup x=some .local\/sc.names.lookup x=some .cell
def Look(env:Env)(h:Heap)(m:Str->Option Value)(x:Str)(u:Value):Prop:=
 (env.kindOf x=some .local/\m x=some u)\/((env.kindOf x=some .cell\/env.kindOf x=some .free)/\∃c,env.cells.lookup x=some c/\h.IsCell c (some u))
structure Cx.Ok(X:Cx):Prop where
 mod:Mod X.K X.mg X.base
 kind:X.env.scope.kind=.function
 glob:X.env.globals=mainGlobals
 blt:X.env.builtins=builtinsNs
 above:X.s₀⁻¹<=X.env.locals
 inj:∀x y c,X.env.cells.lookup x=some c->X.env.cells.lookup y=some c->x=y
 has:∀x,(X.env.kindOf x=some .cell\/X.env.kindOf x=some .free)->∃c,X.env.cells.lookup x=some c
 cab:∀x c,X.fn x=true->X.env.cells.lookup x=some c->X.s₀⁻¹<=c
 hd:X.calm=true->X.A.handled=none
 frames:X.A.frames=some X.stack
 stk:X.stack=X.outer\/(X.stack=X.env::X.outer/\X.env.frame=some X.env.locals)
 exf:∀b∈X.ex,b≠X.env.locals/\∀x c,X.env.cells.lookup x=some c->c≠b
 bs:∀b o,X.base.get? b=some o->X.s₀.heap.get? b=some o/\X.H₀ b=none
 bsz:X.base.objs.size<=X.s₀⁻¹
 noex:∀b o,X.base.get? b=some o->b∉X.ex
 exfs:∀b∈X.ex,b∉X.fs
 funs:X.s₀.heap.FunFrames X.base X.outer
 frf:∀b∈X.fs,X.H₀ b=none
structure Inv(X:Cx)(aa:Ψ)(σ:List (Option V))(H:Hp)(s:Shared):Prop where
 ok:X.Ok
 os:s.os=X.s₀.os
 bare:AllBare s.gens
 base:Un X.fs X.ex X.H₀ H X.s₀.heap s.heap
 loc:∃m,s.heap.Ns X.env.locals m/\∀(i:Nat)(x:Str)(v:V),X.N[i]?=some x->σ[i]?=some (some v)->kH X.env.scope x->∃u,RelV v u/\Look X.env s.heap m x u
 cell:∀x c,X.env.cells.lookup x=some c->∃v,s.heap.IsCell c v
 free:H X.env.locals=none
 freeC:∀x c,X.env.cells.lookup x=some c->H c=none
 pin:∀p∈X.pn++aa,s.heap.get? p.1=some p.2/\H p.1=none/\p.1≠X.env.locals/\p.1∉X.fs/\∀v,p.2.data≠.cell v
 hok:HOk X.prog X.w H s.heap
 len:σ.length=X.N.length
section
variable{X:Cx}{aa:Ψ}{σ:List (Option V)}{H H':Hp}{s:Shared}{h':Heap}
def Cx.Ok.nofr(ok:X.Ok){b:Addr}{o:Obj}(e:X.base.get? b=some o):b∉X.fs:=fun hb=>by
 have:=(ok.funs.mem hb).1;rw[e] at this;cases this
def Inv.bs(I:Inv X aa σ H s):∀b o,X.base.get? b=some o->s.heap.get? b=some o/\H b=none:=fun b o e=>
 ⟨I.base.keep b o (I.ok.bs b o e).1 (I.ok.bs b o e).2 (I.ok.nofr e) (I.ok.noex b o e),I.base.free b o (I.ok.bs b o e).1 (I.ok.bs b o e).2 (I.ok.noex b o e)⟩
def Inv.bk(I:Inv X aa σ H s):∀b o,X.base.get? b=some o->s.heap.get? b=some o:=fun b o e=>(I.bs b o e).1
def Inv.mod(I:Inv X aa σ H s):Mod X.K X.mg X.base:=I.ok.mod
def Inv.kIn(I:Inv X aa σ H s):X.K.In s.heap:=I.ok.mod.kin.keeps I.bk
def Inv.nolimit(I:Inv X aa σ H s):s.heap.NoLimit:=I.ok.mod.nolimit.keeps I.bk
def Inv.fr(I:Inv X aa σ H s):∃m,Fr X.base X.env.locals s.heap m:=
 let ⟨m,hn,_⟩:=I.loc
 ⟨m,hn,I.bk,AF I.ok.bsz I.ok.above⟩
def Inv.lt(I:Inv X aa σ H s):X.env.locals<s⁻¹:=let ⟨_,hn,_⟩:=I.loc;hn.lt
def Inv.sz(I:Inv X aa σ H s):X.s₀⁻¹<=s⁻¹:=AF I.ok.above (Nat.le_of_lt I.lt)
def Inv.nofs(I:Inv X aa σ H s){a:Addr}(h:s⁻¹<=a):a∉X.fs:=fun hb=>by
 obtain⟨_,o,b,_⟩:=I.ok.funs.mem hb;exact absurd (Az (Ao b) (AF I.sz h)) (Nat.lt_irrefl _)
def Inv.cne(I:Inv X aa σ H s):∀x c,X.env.cells.lookup x=some c->c≠X.env.locals:=fun x c e z=>by
 obtain⟨v,o,d,hd⟩:=I.cell x c e;obtain⟨m,⟨o',es,ep,a,b,_⟩,_⟩:=I.loc;rw[z,a] at d;cases d;rw[b] at hd;cases hd
def Inv.funs(I:Inv X aa σ H s):s.heap.FunFrames X.base X.outer:=by
 have all:∀(l:List Env),(∀b∈frs l,b∈X.fs)->X.s₀.heap.FunFrames X.base l->s.heap.FunFrames X.base l:=by
  intro l
  induction l with
  |nil=>intro _ _;trivial
  |cons env r ih=>
   intro hs c;obtain⟨hk,⟨L,o,hf,d,f,hd⟩,hr⟩:=c;have a:L∈X.fs:=hs L (by unfold frs;rw[List.filterMap_cons,hf];exact AB);obtain⟨g,e⟩:=I.base.slot L o f (I.ok.frf L a) a fun z=>I.ok.exfs L z a;exact⟨hk,⟨L,_,hf,d,e,hd⟩,ih (fun b hb=>hs b (by unfold frs;rw[List.filterMap_cons,hf];exact Ay _ hb)) hr⟩
 exact all X.outer (fun _ hb=>hb) I.ok.funs
def Inv.stack(I:Inv X aa σ H s):s.heap.FunFrames X.base X.stack:=by
 rcases I.ok.stk with e|⟨e,hf⟩
 ·rw[e];exact I.funs
 ·rw[e]
  obtain⟨m,a,_⟩:=I.loc;refine .cons (by rw[I.ok.kind];decide) hf a ?_ I.funs;exact Heap.get?_none_of_le (AF I.ok.bsz I.ok.above)
def Inv.stkSub(I:Inv X aa σ H s):∀b∈frs X.stack,b∈X.env.locals::X.fs:=fun b hb=>by
 rcases I.ok.stk with e|⟨e,hf⟩
 ·rw[e] at hb;exact Ay _ hb
 ·rw[e] at hb
  unfold frs at hb;rw[List.filterMap_cons,hf] at hb;exact hb
def Inv.stkFree(I:Inv X aa σ H s):∀b∈frs X.stack,H b=none:=fun b hb=>by
 rcases List.mem_cons.mp (I.stkSub b hb) with e|hb
 ·rw[e];exact I.free
 ·obtain⟨_,o,a,_⟩:=I.ok.funs.mem hb
  exact I.base.free b o a (I.ok.frf b hb) fun z=>I.ok.exfs b z hb
def Inv.step{g':Array GenState}{t':Nat}{d':Drawn}{ch:List Addr}(I:Inv X aa σ H s)(h:∀b∈ch,(b∈X.ex\/X.s₀⁻¹<=b)/\b≠X.env.locals/\(∀x c,X.env.cells.lookup x=some c->c≠b)/\∀p∈X.pn++aa,p.1≠b)(keep:∀b o,b≠X.env.locals->b∉X.fs->b∉ch->s.heap.get? b=some o->H b=none->h'.get? b=some o)(slot:∀b o,b≠X.env.locals->b∈X.fs->b∉ch->s.heap.get? b=some o->H b=none->∃A,h'.get? b=some {o with slots:=A})(free:∀b o,b∉ch->s.heap.get? b=some o->H b=none->H' b=none)(there:∀b o,b∉ch->s.heap.get? b=some o->∃o',h'.get? b=some o')(tups:∀b xs,H b=some (.tup xs)->H' b=some (.tup xs))(frzs:∀b o u,H b=some (.frz o u)->H' b=some (.frz o u))(tbls:∀b ps,H b=some (.tbl ps)->∃more,H' b=some (.tbl (ps++more)))(ns:∀m,s.heap.Ns X.env.locals m->h'.Ns X.env.locals m)(C:HOk X.prog X.w H' h')(M:AllBare g'):Inv X aa σ H' {s with heap:=h',gens:=g',drawn:=d',toks:=t'}:=by
 have j:∀b o,X.s₀.heap.get? b=some o->b≠X.env.locals:=fun b o e=>Ap (Az (Ao e) I.ok.above);have y:∀b o,X.s₀.heap.get? b=some o->b∉X.ex->b∉ch:=fun b o e hx hb=>by
  rcases(h b hb).1 with z|z
  ·exact hx z
  ·exact absurd (Az (Ao e) z) (Nat.lt_irrefl _)
 have a:∀x c,X.env.cells.lookup x=some c->∀v,s.heap.IsCell c v->h'.IsCell c v:=fun x c e v ⟨o,g,hd⟩=>by
  have f:c∉ch:=fun z=>(h c z).2.2.1 x c e rfl
  by_cases hc:c∈X.fs
  ·obtain⟨A,q⟩:=slot c o (I.cne x c e) hc f g (I.freeC x c e)
   exact⟨_,q,hd⟩
  ·exact⟨o,keep c o (I.cne x c e) hc f g (I.freeC x c e),hd⟩
 refine⟨I.ok,I.os,M,⟨fun b o e n hb hx=>?_,fun b o e n hb hx=>?_,fun b o e n hx=>?_,fun b o e hx=>?_,fun b xs e=>tups b xs (I.base.tups b xs e),fun b o xs e=>frzs b o xs (I.base.frzs b o xs e),fun b ps e=>?_⟩,?_,fun x c e=>?_,?_,fun x c e=>?_,fun p hp=>?_,C,I.len⟩
 ·exact keep b o (j b o e) hb (y b o e hx) (I.base.keep b o e n hb hx) (I.base.free b o e n hx)
 ·obtain⟨A,e1⟩:=I.base.slot b o e n hb hx
  obtain⟨E,e2⟩:=slot b _ (j b o e) hb (y b o e hx) e1 (I.base.free b o e n hx);exact⟨E,e2⟩
 ·obtain⟨o',e1⟩:=I.base.there b o e hx
  exact free b o' (y b o e hx) e1 (I.base.free b o e n hx)
 ·obtain⟨o',e1⟩:=I.base.there b o e hx
  exact there b o' (y b o e hx) e1
 ·obtain⟨F,e1⟩:=I.base.tbls b ps e
  obtain⟨G,e2⟩:=tbls b _ e1;exact⟨F++G,by rw[e2,Array.append_assoc]⟩
 ·obtain⟨m,J,L⟩:=I.loc
  refine⟨m,ns m J,fun i x v e1 e2 e3=>?_⟩;obtain⟨u,r,l⟩:=L i x v e1 e2 e3;refine⟨u,r,?_⟩;rcases l with l|⟨k,c,e,z⟩
  ·exact .inl l
  ·exact .inr ⟨k,c,e,a x c e _ z⟩
 ·obtain⟨v,z⟩:=I.cell x c e
  exact⟨v,a x c e v z⟩
 ·obtain⟨m,⟨o,_,_,g,_⟩,_⟩:=I.loc
  exact free _ o (fun z=>(h _ z).2.1 rfl) g I.free
 ·obtain⟨v,o,g,hd⟩:=I.cell x c e
  exact free c o (fun z=>(h c z).2.2.1 x c e rfl) g (I.freeC x c e)
 ·obtain⟨e,n,ne,D,d⟩:=I.pin p hp
  have f:p.1∉ch:=fun z=>(h p.1 z).2.2.2 p hp rfl;exact⟨keep p.1 p.2 ne D f e n,free p.1 p.2 f e n,ne,D,d⟩
def Inv.un{t':Nat}(I:Inv X aa σ H s)(u:Un X.fs [] H H' s.heap h')(c:HOk X.prog X.w H' h'):Inv X aa σ H' {s with heap:=h',toks:=t'}:=by
 obtain⟨m,⟨o,es,ep,d,r⟩,_⟩:=id I.loc;obtain⟨l,f⟩:=u.any d I.free (by simp);exact I.step (g':=s.gens) (d':=s.drawn) (ch:=[]) (fun _ z=>nomatch z) (fun b o _ hb _ e n=>u.keep b o e n hb (by simp)) (fun b o _ hb _ e n=>u.slot b o e n hb (by simp)) (fun b o _ e n=>u.free b o e n (by simp)) (fun b o _ e=>u.there b o e (by simp)) u.tups u.frzs u.tbls (fun j hm=>by
  obtain⟨o',g,h,a,i⟩:=hm;rw[d] at a;cases a;exact⟨_,g,h,f,i⟩) c I.bare
def Inv.call{g':Array GenState}{t':Nat}{d':Drawn}{ch:List Addr}(I:Inv X aa σ H s)(u:Un (frs X.stack) ch H H' s.heap h')(f:HOk X.prog X.w H' h')(q:AllBare g')(h:∀b∈ch,(b∈X.ex\/X.s₀⁻¹<=b)/\b≠X.env.locals/\(∀x c,X.env.cells.lookup x=some c->c≠b)/\∀p∈X.pn++aa,p.1≠b):Inv X aa σ H' {s with heap:=h',gens:=g',drawn:=d',toks:=t'}:=by
 obtain⟨m,⟨o,es,ep,g,r⟩,_⟩:=id I.loc;obtain⟨y,d⟩:=u.any g I.free fun z=>(h _ z).2.1 rfl;exact I.step (ch:=ch) h (fun b o d hb hc e n=>u.keep b o e n (fun z=>(List.mem_cons.mp (I.stkSub b z)).elim d hb) hc) (fun b o _ _ hc e n=>u.any e n hc) (fun b o hc e n=>u.free b o e n hc) (fun b o hc e=>u.there b o e hc) u.tups u.frzs u.tbls (fun v hm=>by
  obtain⟨o',i,j,a,l⟩:=hm;rw[g] at a;cases a;exact⟨_,i,j,d,l⟩) f q
def Inv.turned{t':Nat}{it:Addr}(I:Inv X aa σ H s)(k:∀b o,b≠it->s.heap.get? b=some o->h'.get? b=some o)(g:H it=none)(d:it≠X.env.locals)(h1:it∈X.ex\/X.s₀⁻¹<=it)(h2:∀x c,X.env.cells.lookup x=some c->c≠it)(h:∀p∈X.pn++aa,p.1≠it):Inv X aa σ H {s with heap:=h',toks:=t'}:=by
 have a:∀b u,H b=some u->b≠it:=fun b u e z=>by rw[z,g] at e;cases e
 refine I.step (g':=s.gens) (d':=s.drawn) (ch:=[it]) (fun b hb=>?_) (fun b o _ _ hc e _=>k b o (fun z=>hc (by simp[z])) e) (fun b o _ _ hc e _=>⟨o.slots,k b o (fun z=>hc (by simp[z])) e⟩) (fun _ _ _ _ n=>n)
  (fun b o hc e=>⟨o,k b o (fun z=>hc (by simp[z])) e⟩) (fun _ _ e=>e) (fun _ _ _ e=>e) (fun b ps e=>⟨#[],by rw[e];simp⟩) (fun m hm=>?_) (fun b u e=>?_) I.bare
 ·have e:b=it:=by simpa using hb
  subst e;exact⟨h1,d,h2,h⟩
 ·obtain⟨o,es,ep,f,r⟩:=hm
  exact⟨o,es,ep,k _ o (Ne.symm d) f,r⟩
 ·refine(I.hok b u e).stay (fun c v hc q=>k c v ?_ q) (fun _ q=>q) fun _ _ q=>q
  rcases hc with z|z
  ·rw[z];exact a b u e
  ·exact a c _ z
def Inv.tok(I:Inv X aa σ H s)(t:Nat):Inv X aa σ H {s with toks:=t}:=I.un (h':=s.heap) (t':=t) Un.refl I.hok
def Inv.kept{t':Nat}(I:Inv X aa σ H s)(k:∀b u,s.heap.get? b=some u->h'.get? b=some u):Inv X aa σ H {s with heap:=h',toks:=t'}:=I.un (Un.kept k) (I.hok.kept k)
def Inv.laid{a:Addr}{o:HO}{t':Nat}(I:Inv X aa σ H s)(k:∀b u,s.heap.get? b=some u->h'.get? b=some u)(hp:s⁻¹<=a)(new:zC X.prog X.w (upd H a o) h' a o):Inv X aa σ (upd H a o) {s with heap:=h',toks:=t'}:=I.un (Un.laid k hp (I.hok.fresh hp)) (I.hok.laid k hp new)
def Inv.write{x e:Addr}{o:HO}{t':Nat}(I:Inv X aa σ H s)(a:kG (H x))(he:e=x\/H e=some (.own x))(k:∀b u,b≠e->s.heap.get? b=some u->h'.get? b=some u)(c:∃u,h'.get? e=some u)(new:zC X.prog X.w (upd H x o) h' x o):Inv X aa σ (upd H x o) {s with heap:=h',toks:=t'}:=I.un (Un.write a he k c) (I.hok.write a he k c new)
def Inv.pins_of{bP:Ψ}(I:Inv X aa σ H s)(h:∀p∈bP,s.heap.get? p.1=some p.2/\H p.1=none/\p.1≠X.env.locals/\p.1∉X.fs/\∀v,p.2.data≠.cell v):Inv X bP σ H s:=
 ⟨I.ok,I.os,I.bare,I.base,I.loc,I.cell,I.free,I.freeC,fun p hp=>(List.mem_append.mp hp).elim (fun z=>I.pin p (List.mem_append_left _ z)) (h p),I.hok,I.len⟩
def qQ{N:List Str}(c:N.Nodup){i j:Nat}{x:Str}(a:N[i]?=some x)(b:N[j]?=some x):i=j:=by
 obtain⟨h1,e1⟩:=List.getElem?_eq_some_iff.mp a;obtain⟨h2,e2⟩:=List.getElem?_eq_some_iff.mp b;exact(List.getElem_inj c).mp (e1.trans e2.symm)
def xf{M:Model}{A:Around}{E:Ω}{i:Nat}{x:Str}{v:V}{u:Value}{Q:Unit->Shared->Prop}(I:Inv X aa σ H s)(hN:X.N.Nodup)(hi:X.N[i]?=some x)(hx:Loc X.env.scope x)(r:RelV v u)(h:∀s',Inv X aa (σ.set i (some v)) H s'->(∃a,AR a s.heap s'.heap/\(a=X.env.locals\/X.env.cells.lookup x=some a))->Q () s')(hf:X.fn x=true\/X.env.scope.names.lookup x=some .local:=by first|exact .inl rfl|exact .inr rfl|assumption):wpAny M A (storeName X.env x u) Q E s:=by
 obtain⟨m,G,W⟩:=id I.loc;have iY:(X.env.scope.kind==.class|| (X.env.scope.kind==.module&&X.env.locals != X.env.globals))=false:=by rw[I.ok.kind];rfl
 have g:i<σ.length:=by rw[I.len];exact(List.getElem?_eq_some_iff.mp hi).1
 have cne:=I.cne;have dE:∀{a:Addr}{h':Heap},(∃o,s.heap.get? a=some o/\H a=none)->AR a s.heap h'->HOk X.prog X.w H h':=fun{a h'} ha hs b ob e=>by
  obtain⟨_,_,f⟩:=ha;refine(I.hok b ob e).stay (fun c D hc q=>(hs.2 c ?_).trans q) (fun _ q=>q) fun _ _ q=>q;rintro rfl;rcases hc with rfl|hc
  ·rw[f] at e;cases e
  ·rw[f] at hc;cases hc
 rcases hx with hk|hk
 ·refine wpAny_storeName_local hk G (fun h' hV hs=>?_) iY
  obtain⟨oL,_,_,J,_⟩:=id G;refine h _ ⟨I.ok,I.os,I.bare,⟨fun b o e n hb hx=>?_,fun b o e n hb hx=>?_,I.base.free,fun b o e hx=>?_,I.base.tups,I.base.frzs,I.base.tbls⟩,⟨_,hV,fun j y F e1 e2 e3=>?_⟩,fun y c e=>?_,I.free,I.freeC,fun p hp=>?_,dE ⟨oL,J,I.free⟩ hs,by simpa using I.len⟩ ⟨_,hs,.inl rfl⟩
  ·exact(hs.2 b (Ap (Az (Ao e) I.ok.above))).trans (I.base.keep b o e n hb hx)
  ·obtain⟨L,e1⟩:=I.base.slot b o e n hb hx
   exact⟨L,(hs.2 b (Ap (Az (Ao e) I.ok.above))).trans e1⟩
  ·obtain⟨o',e1⟩:=I.base.there b o e hx
   exact⟨o',(hs.2 b (Ap (Az (Ao e) I.ok.above))).trans e1⟩
  ·by_cases l:j=i
   ·subst l
    rw[hi] at e1;cases e1;rw[List.getElem?_set_self g] at e2;cases e2;exact⟨u,r,.inl ⟨hk,by simp⟩⟩
   ·rw[List.getElem?_set_ne (Ne.symm l)] at e2
    obtain⟨O,P,q⟩:=W j y F e1 e2 e3;refine⟨O,P,?_⟩;rcases q with ⟨k,e⟩|⟨k,c,e,z⟩
    ·refine .inl ⟨k,?_⟩
     have:y≠x:=fun e=>l (qQ hN e1 (e▸hi));simp[this,e]
    ·exact .inr ⟨k,c,e,z.sameBut hs (cne y c e)⟩
  ·obtain⟨D,z⟩:=I.cell y c e
   exact⟨D,z.sameBut hs (cne y c e)⟩
  ·obtain⟨e,n,ne,S,d⟩:=I.pin p hp
   exact⟨(hs.2 p.1 ne).trans e,n,ne,S,d⟩
 ·have T:X.fn x=true:=by
   rcases hf with z|z
   ·exact z
   ·rw[z] at hk;cases hk
  obtain⟨c,hc⟩:=I.ok.has x (.inl hk);obtain⟨D,z⟩:=I.cell x c hc;refine wpAny_storeName_cell I.ok.kind hk hc z (fun h' U hs=>?_);obtain⟨Y,gK,mX⟩:=id z;refine h {s with heap:=h'} ⟨I.ok,I.os,I.bare,⟨fun b o e n hb hx=>?_,fun b o e n hb hx=>?_,I.base.free,fun b o e hx=>?_,I.base.tups,I.base.frzs,I.base.tbls⟩,⟨m,G.sameBut hs (Ne.symm (cne x c hc)),fun j y F e1 e2 e3=>?_⟩,fun y c' e=>?_,I.free,I.freeC,fun p hp=>?_,dE ⟨Y,gK,I.freeC x c hc⟩ hs,by simpa using I.len⟩ ⟨c,hs,.inr hc⟩
  ·exact(hs.2 b (Ap (Az (Ao e) (I.ok.cab x c T hc)))).trans (I.base.keep b o e n hb hx)
  ·obtain⟨L,e1⟩:=I.base.slot b o e n hb hx
   exact⟨L,(hs.2 b (Ap (Az (Ao e) (I.ok.cab x c T hc)))).trans e1⟩
  ·obtain⟨o',e1⟩:=I.base.there b o e hx
   exact⟨o',(hs.2 b (Ap (Az (Ao e) (I.ok.cab x c T hc)))).trans e1⟩
  ·by_cases l:j=i
   ·subst l
    rw[hi] at e1;cases e1;rw[List.getElem?_set_self g] at e2;cases e2;exact⟨u,r,.inr ⟨.inl hk,c,hc,U⟩⟩
   ·rw[List.getElem?_set_ne (Ne.symm l)] at e2
    obtain⟨O,P,q⟩:=W j y F e1 e2 e3;refine⟨O,P,?_⟩;rcases q with q|⟨k,c',e,z'⟩
    ·exact .inl q
    ·refine .inr ⟨k,c',e,z'.sameBut hs ?_⟩
     rintro rfl;exact l (qQ hN e1 (I.ok.inj _ _ _ e hc▸hi))
  ·by_cases C:c'=c
   ·subst C;exact⟨_,U⟩
   ·obtain⟨w2,z2⟩:=I.cell y c' e
    exact⟨w2,z2.sameBut hs C⟩
  ·obtain⟨e,n,ne,S,d⟩:=I.pin p hp
   refine⟨(hs.2 p.1 ?_).trans e,n,ne,S,d⟩;intro q;rw[q,gK] at e;have q':Y=p.2:=Al e;exact d D (by rw[<-q'];exact mX)
def ng{M:Model}{A:Around}{E:Ω}{i:Nat}{x:Str}{v:V}{u:Value}{Q:Unit->Shared->Prop}(I:Inv X aa σ H s)(a:X.N.Nodup)(hi:X.N[i]?=some x)(hx:Loc X.env.scope x)(r:RelV v u)(h:∀s',Inv X aa (σ.set i (some v)) H s'->Q () s')(hf:X.fn x=true\/X.env.scope.names.lookup x=some .local:=by first|exact .inl rfl|exact .inr rfl|assumption):wpAny M A (storeName X.env x u) Q E s:=
 xf I a hi hx r (fun s' b _=>h s' b) hf
def Inv.call'{s':Shared}{ch:List Addr}(I:Inv X aa σ H s)(d:s'.os=s.os)(u:Un (frs X.stack) ch H H' s.heap s'.heap)(a:HOk X.prog X.w H' s'.heap)(f:AllBare s'.gens)(g:∀b∈ch,(b∈X.ex\/X.s₀⁻¹<=b)/\b≠X.env.locals/\(∀x c,X.env.cells.lookup x=some c->c≠b)/\∀p∈X.pn++aa,p.1≠b):Inv X aa σ H' s':=by
 obtain⟨h',g',d',t',o'⟩:=s';have e:o'=s.os:=d;subst e;exact I.call (g':=g') (t':=t') (d':=d') u a f g
end
abbrev XK:=Value->Option Addr->Hp->Prop
abbrev St:=List (Option V)
abbrev VK:=V->Hp->Prop
abbrev TE:=St->Hp->VK->Prop
abbrev TT:=St->Hp->(Bool->Hp->Prop)->Prop
abbrev TA:=St->Hp->(List V->Hp->Prop)->Prop
structure Ends where
 nx:St->Hp->Prop
 rt:VK
 bk:St->Hp->Prop:=fun _ _=>False
 ct:St->Hp->Prop:=fun _ _=>False
abbrev TS:=Ends->St->Hp->Prop
def EP(X:Cx)(aa:Ψ)(σ:St)(Q:VK)(u:Value)(s':Shared):Prop:=∃v H',Inv X aa σ H' s'/\RelV v u/\Q v H'
def TP(X:Cx)(aa:Ψ)(σ:St)(Q:Bool->Hp->Prop)(b:Bool)(s':Shared):Prop:=∃H',Inv X aa σ H' s'/\Q b H'
def AP(X:Cx)(aa:Ψ)(σ:St)(Q:List V->Hp->Prop)(us:List Value)(s':Shared):Prop:=∃vs H',Inv X aa σ H' s'/\Vals vs us/\Q vs H'
def SP(X:Cx)(aa:Ψ)(D:Ends)(f:Flow)(s':Shared):Prop:=
 match f with
 |.next=>∃a H',Inv X aa a H' s'/\D.nx a H'
 |.brk=>∃a H',Inv X aa a H' s'/\D.bk a H'
 |.cont=>∃a H',Inv X aa a H' s'/\D.ct a H'
 |.ret u=>∃v a H',Inv X aa a H' s'/\RelV v u/\D.rt v H'
def PE(X:Cx)(e:Expr)(t:TE):Prop:=
 ∀(aa:Ψ)(s:Shared)(σ:St)(H:Hp)(Q:VK),Inv X aa σ H s->t σ H Q->wpAny (model X.prog X.w) X.A (eval e X.env) (EP X aa σ Q) X.xe s
def PT(X:Cx)(e:Expr)(t:TT):Prop:=
 ∀(aa:Ψ)(s:Shared)(σ:St)(H:Hp)(Q:Bool->Hp->Prop),Inv X aa σ H s->t σ H Q->wpAny (model X.prog X.w) X.A (isTrue e X.env (eval e X.env)) (TP X aa σ Q) X.xe s
def PW(X:Cx)(e:Expr)(t:TT):Prop:=
 ∀(a:Sem Value)(aa:Ψ)(s:Shared)(σ:St)(H:Hp)(Q:Bool->Hp->Prop),Inv X aa σ H s->t σ H Q->wpAny (model X.prog X.w) X.A (isTrue e X.env a) (TP X aa σ Q) X.xe s
def PW.pt{X:Cx}{e:Expr}{t:TT}(h:PW X e t):PT X e t:=h _
def PA(X:Cx)(es:List Expr)(t:TA):Prop:=
 ∀(pos:Pos)(aa:Ψ)(s:Shared)(σ:St)(H:Hp)(Q:List V->Hp->Prop),Inv X aa σ H s->t σ H Q->wpAny (model X.prog X.w) X.A (spliced (backTo pos (starEach es X.env))) (AP X aa σ Q) X.xe s
def PS(X:Cx)(st:Stmt)(t:TS):Prop:=
 ∀(aa:Ψ)(s:Shared)(σ:St)(H:Hp)(D:Ends),Inv X aa σ H s->t D σ H->wpAny (model X.prog X.w) X.A (exec st X.env) (SP X aa D) X.xe s
def PSs(X:Cx)(st:List Stmt)(t:TS):Prop:=
 ∀(aa:Ψ)(s:Shared)(σ:St)(H:Hp)(D:Ends),Inv X aa σ H s->t D σ H->wpAny (model X.prog X.w) X.A (execs st X.env) (SP X aa D) X.xe s
def aJ{b:Type}{t:Sem b}{Q c:b->Shared->Prop}{M:Model}{A:Around}{E:Ω}{s:Shared}(h:wpAny M A t Q E s)(d:∀a s,Q a s->c a s):wpAny M A t c E s:=A9 h d fun _ _ x=>x
section
variable{X:Cx}
def aw(i:Nat):TE:=fun σ H Q=>∃v,σ[i]?=some (some v)/\Q v H
def tC(v:V):TE:=fun _ H Q=>Q v H
def CN{i:Nat}{x:Str}{pos:Pos}(f:X.N[i]?=some x)(g:kH X.env.scope x)(hd:(x==("__debug__":Str))=false:=by decide)(j:(x==("__classdict__":Str))=false:=by decide):PE X (.Name x pos) (aw i):=by
 intro aa s σ H Q I h;obtain⟨v,e,h⟩:=h;obtain⟨m,b,d⟩:=I.loc;obtain⟨u,r,l⟩:=d i x v f e g;have fin:EP X aa σ Q u s:=⟨v,H,I,r,h⟩;rcases l with ⟨hk,hm⟩|⟨hk,c,hc,a⟩
 ·exact wpAny_Name (wpAny_loadName_local I.ok.kind hk b hm fin) hd
 ·rcases hk with hk|hk
  ·exact wpAny_Name (wpAny_loadName_cell I.ok.kind hk hc a fin) hd
  ·exact wpAny_Name (wpAny_loadName_free I.ok.kind hk hc a fin j) hd
def zg{i j pos}:PE X (.Constant (.int i) j pos) (tC (.int i)):=fun _ _ _ H _ I h=>wpAny_Constant_int ⟨.int i,H,I.tok _,⟨_,rfl⟩,h⟩
def zY{b j pos}:PE X (.Constant (.bool b) j pos) (tC (.bl b)):=fun _ _ _ H _ I h=>Constant_bool ⟨.bl b,H,I,rfl,h⟩
def CO{j pos}:PE X (.Constant .none j pos) (tC .non):=fun _ _ _ H _ I h=>Constant_none ⟨.non,H,I,rfl,h⟩
def pe_str{x j pos}:PE X (.Constant (.str x) j pos) (tC (.str x)):=fun _ _ _ H _ I h=>Calls.Constant_str ⟨.str x,H,I.tok _,⟨_,rfl⟩,h⟩
def Gl(X:Cx)(x:Str):Prop:=X.env.kindOf x=some .globalImplicit
def kQ{E:Ω}{aa:Ψ}{s:Shared}{σ:St}{H:Hp}{x:Str}{u:Value}{pos:Pos}{Q:Ω}(I:Inv X aa σ H s)(a:Gl X x)(hm:X.mg x=some u)(h:Q u s)(hd:(x==("__debug__":Str))=false:=by decide):wpAny (model X.prog X.w) X.A (eval (.Name x pos) X.env) Q E s:=
 Calls.Name_function_global I.ok.kind a (Calls.loadGlobal_global (by rw[I.ok.glob];exact I.mod.glob.keeps I.bk) hm h) hd
def i_{E:Ω}{aa:Ψ}{s:Shared}{σ:St}{H:Hp}{x:Str}{u:Value}{pos:Pos}{Q:Ω}(I:Inv X aa σ H s)(a:Gl X x)(hm:X.mg x=none)(b:A5 x=some u)(h:Q u s)(c:x≠"__name__":=by decide)(hd:(x==("__debug__":Str))=false:=by decide):wpAny (model X.prog X.w) X.A (eval (.Name x pos) X.env) Q E s:=by
 obtain⟨d,h1,h2⟩:=I.mod.blt;exact Calls.Name_function_global I.ok.kind a (Calls.loadGlobal_builtin (by rw[I.ok.glob];exact I.mod.glob.keeps I.bk) hm (by rw[I.ok.blt];exact h1.keeps I.bk) ((h2 x c).trans b) h) hd
def jT{x:Str}{v:V}{u:Value}{pos:Pos}(a:Gl X x)(hm:X.mg x=some u)(r:RelV v u)(hd:(x==("__debug__":Str))=false:=by decide):PE X (.Name x pos) (tC v):=
 fun _ _ _ H _ I h=>kQ I a hm ⟨v,H,I,r,h⟩ hd
def gH{x:Str}{v:V}{u:Value}{pos:Pos}(a:Gl X x)(hm:X.mg x=none)(b:A5 x=some u)(r:RelV v u)(c:x≠"__name__":=by decide)(hd:(x==("__debug__":Str))=false:=by decide):PE X (.Name x pos) (tC v):=
 fun _ _ _ H _ I h=>i_ I a hm b ⟨v,H,I,r,h⟩ c hd
variable{a b:Expr}{ta tb:TE}{pos:Pos}
def tB(t:TE):TT:=fun σ H Q=>t σ H fun x H1=>∃c,x=.bl c/\Q c H1
def et{e:Expr}{t:TE}(h:PE X e t)(he:∀a,isTrue e X.env a=(do let v <-a;standAt e.pos;holding [v] (truthy v)):=by intro _;rfl):PT X e (tB t):=by
 intro aa s σ H Q I hw;refine isTrue_plain (aJ (h aa s σ H _ I hw) fun v g ⟨x,H1,f,b,c⟩=>?_) (he _);obtain⟨d,rfl,q⟩:=c;cases b;exact wpAny_truthy_bool ⟨H1,f,q⟩
variable{tA lq:TT}{rest:List Expr}
def qT(t u:TT):TT:=fun σ H Q=>t σ H fun c H1=>if c=true then u σ H1 Q else Q false H1
def CP(t u:TT):TT:=fun σ H Q=>t σ H fun c H1=>if c=true then Q true H1 else u σ H1 Q
def qW(t:TT):TT:=fun σ H Q=>t σ H fun c H1=>Q (!c) H1
def fb(b:PT X a tA):PW X (.BoolOp .And [a] pos) tA:=by
 intro d aa s σ H Q I h;refine isTrue_and (aJ (b aa s σ H Q I h) fun c f e=>?_);cases c with
 |true=>exact isTrue_and_nil e
 |false=>exact e
def f_(b:PT X a tA):PW X (.BoolOp .Or [a] pos) tA:=by
 intro d aa s σ H Q I h;refine isTrue_or (aJ (b aa s σ H Q I h) fun c f e=>?_);cases c with
 |false=>exact isTrue_or_nil e
 |true=>exact e
def fc(i:PT X a tA)(hb:PW X (.BoolOp .And (b::rest) pos) lq):PW X (.BoolOp .And (a::b::rest) pos) (qT tA lq):=by
 intro f aa s σ H Q I h;refine isTrue_and (aJ (i aa s σ H _ I h) fun c g ⟨H1,e,d⟩=>?_);cases c with
 |true=>exact hb f aa g σ H1 Q e d
 |false=>exact⟨H1,e,d⟩
def gf(i:PT X a tA)(hb:PW X (.BoolOp .Or (b::rest) pos) lq):PW X (.BoolOp .Or (a::b::rest) pos) (CP tA lq):=by
 intro f aa s σ H Q I h;refine isTrue_or (aJ (i aa s σ H _ I h) fun c g ⟨H1,e,d⟩=>?_);cases c with
 |true=>exact⟨H1,e,d⟩
 |false=>exact hb f aa g σ H1 Q e d
def dY(b:PT X a tA):PT X (.UnaryOp .Not a pos) (qW tA):=by
 intro aa s σ H Q I h;exact isTrue_not (b aa s σ H (fun c H1=>Q (!c) H1) I h)
def CQ(t:TT)(ta tb:TE):TE:=fun σ H Q=>t σ H fun c H1=>if c=true then ta σ H1 Q else tb σ H1 Q
def CS{c:Expr}(hc:PT X c tA)(i:PE X a ta)(hb:PE X b tb):PE X (.IfExp c a b pos) (CQ tA ta tb):=by
 intro aa s σ H Q I h;refine wpAny_IfExp (aJ (hc aa s σ H _ I h) fun d e ⟨H1,g,f⟩=>?_);cases d with
 |true=>exact i aa e σ H1 Q g f
 |false=>exact hb aa e σ H1 Q g f
end
def SqL(K:Ae)(H:Hp)(a:Addr)(xs:List V):Prop:=
 Rd H a (.lst xs) \/
  ∃(o:Obj)(b:Array Value)(n:Nat),K.lookup a=some o/\o.cls=.type "list"/\o.dict=none/\o.data=.seq b n/\b.size<=sizeLine/\Vals xs b.toList
def SqT(K:Ae)(H:Hp)(a:Addr)(xs:List V):Prop:=
 Rd H a (.tup xs) \/
  ∃(o:Obj)(b:Array Value)(n:Nat),K.lookup a=some o/\o.cls=.type "tuple"/\o.data=.seq b n/\b.size<=sizeLine/\Vals xs b.toList
def qX:Value->Option V
 |.none=>some .non
 |.bool b=>some (.bl b)
 |.int i _=>some (.int i)
 |.str x _=>some (.str x)
 |.bytes b _=>some (.byt b)
 |.float b _=>some (.flt b)
 |.ref a=>some (.ref a)
 |.type n=>some (.ty n)
 |_=>none
def RelV.abs{x:V}{u:Value}(r:RelV x u):qX u=some x:=by
 cases x with
 |non=>cases r;rfl
 |bl _=>cases r;rfl
 |int _=>obtain⟨t,rfl⟩:=r;rfl
 |str _=>obtain⟨t,rfl⟩:=r;rfl
 |byt _=>obtain⟨t,rfl⟩:=r;rfl
 |flt _=>obtain⟨t,rfl⟩:=r;rfl
 |ref _=>cases r;rfl
 |ty _=>cases r;rfl
def RelV.inj{x y:V}{u:Value}(r:RelV x u)(q:RelV y u):x=y:=Al (r.abs.symm.trans q.abs)
def Vals.inj{xs ys:List V}{us:List Value}(h:Vals xs us)(g:Vals ys us):xs=ys:=by
 induction h generalizing ys with
 |nil=>cases g;rfl
 |cons r t ih=>cases g with|cons r' t'=>rw[r.inj r',ih t']
section
variable{X:Cx}{aa:Ψ}{σ:St}{H:Hp}{s:Shared}{a:Addr}{xs ys:List V}
def SqL.of{K:Ae}(h:H a=some (.lst xs)):SqL K H a xs:=.inl (.inl h)
def SqT.of{K:Ae}(h:H a=some (.tup xs)):SqT K H a xs:=.inl (.inl h)
def Inv.list(I:Inv X aa σ H s)(h:SqL X.K H a xs):∃b:List Value,Vals xs b/\PlainL s.heap a b.toArray/\xs.length<=sizeLine:=by
 rcases h with h|⟨o,b,n,hk,hc,hd,hs,hz,r⟩
 ·obtain⟨z,b,n,r,e⟩:=h.ok I.hok
  exact⟨b,r,⟨_,n,e,rfl,rfl,rfl⟩,z⟩
 ·refine⟨b.toList,r,⟨o,n,I.kIn a o hk,hc,hd,by simpa using hs⟩,?_⟩
  have e:=r.length;simp only[AQ] at e;omega
def Inv.tuple(I:Inv X aa σ H s)(h:SqT X.K H a xs):∃b:List Value,Vals xs b/\IsTup s.heap a b.toArray/\xs.length<=sizeLine:=by
 rcases h with h|⟨o,b,n,hk,hc,hs,hz,r⟩
 ·obtain⟨z,b,r,p⟩:=h.ok I.hok
  exact⟨b,r,p,z⟩
 ·refine⟨b.toList,r,⟨o,I.kIn a o hk,hc,n,by simpa using hs⟩,?_⟩
  have e:=r.length;simp only[AQ] at e;omega
def Inv.list_inj(I:Inv X aa σ H s)(h:SqL X.K H a xs)(h':SqL X.K H a ys):xs=ys:=by
 obtain⟨b,r,⟨o,n,e,_,_,d⟩,_⟩:=I.list h;obtain⟨its',c,⟨o',f,e',_,_,d'⟩,_⟩:=I.list h';rw[e] at e';cases e';rw[d] at d';injection d' with d1 _
 have:b=its':=by simpa using congrArg Array.toList d1
 subst this;exact r.inj c
def Inv.tuple_inj(I:Inv X aa σ H s)(h:SqT X.K H a xs)(h':SqT X.K H a ys):xs=ys:=by
 obtain⟨b,r,⟨o,e,_,n,d⟩,_⟩:=I.tuple h;obtain⟨its',c,⟨o',e',_,f,d'⟩,_⟩:=I.tuple h';rw[e] at e';cases e';rw[d] at d';injection d' with d1 _
 have:b=its':=by simpa using congrArg Array.toList d1
 subst this;exact r.inj c
end
abbrev Cx.wish(X:Cx)(E:Ω):Cx:={X with xe:=E}
abbrev Cx.nox(X:Cx):Cx:=X.wish fun _ _=>False
def Cx.Ok.wish{X:Cx}(ok:X.Ok)(E:Ω):(X.wish E).Ok:=
 ⟨ok.mod,ok.kind,ok.glob,ok.blt,ok.above,ok.inj,ok.has,ok.cab,ok.hd,ok.frames,ok.stk,ok.exf,ok.bs,ok.bsz,ok.noex,ok.exfs,ok.funs,ok.frf⟩
def Cx.Ok.unwish{X:Cx}{E:Ω}(ok:(X.wish E).Ok):X.Ok:=
 ⟨ok.mod,ok.kind,ok.glob,ok.blt,ok.above,ok.inj,ok.has,ok.cab,ok.hd,ok.frames,ok.stk,ok.exf,ok.bs,ok.bsz,ok.noex,ok.exfs,ok.funs,ok.frf⟩
section
variable{X:Cx}{aa:Ψ}{σ:St}{H:Hp}{s:Shared}{E:Ω}
def Inv.wish(I:Inv X aa σ H s)(E:Ω):Inv (X.wish E) aa σ H s:=⟨I.ok.wish E,I.os,I.bare,I.base,I.loc,I.cell,I.free,I.freeC,I.pin,I.hok,I.len⟩
def Inv.unwish(I:Inv (X.wish E) aa σ H s):Inv X aa σ H s:=⟨I.ok.unwish,I.os,I.bare,I.base,I.loc,I.cell,I.free,I.freeC,I.pin,I.hok,I.len⟩
def SP.unwish{D:Ends}{f:Flow}{s':Shared}(h:SP (X.wish E) aa D f s'):SP X aa D f s':=by
 cases f with
 |next=>obtain⟨a,H',I,q⟩:=h;exact⟨a,H',I.unwish,q⟩
 |brk=>obtain⟨a,H',I,q⟩:=h;exact⟨a,H',I.unwish,q⟩
 |cont=>obtain⟨a,H',I,q⟩:=h;exact⟨a,H',I.unwish,q⟩
 |ret u=>obtain⟨v,a,H',I,r,q⟩:=h;exact⟨v,a,H',I.unwish,r,q⟩
def PSs.nox{st:List Stmt}{t:TS}(h:PSs X.nox st t):PSs X st t:=fun aa s σ H D I hw=>
 A9 (h aa s σ H D (I.wish _) hw) (fun _ _ q=>q.unwish) fun _ _ z=>Be z
end
section
variable{X:Cx}{st:Stmt}{rest:List Stmt}{t u:TS}{e:Expr}{te:TE}{pos:Pos}
def CT:TS:=fun D σ H=>D.nx σ H
def kR(t u:TS):TS:=fun D σ H=>t {D with nx:=u D} σ H
def zt:PSs X [] CT:=fun _ _ σ H _ I h=>wpAny_execs_nil ⟨σ,H,I,h⟩
def zb(h1:PS X st t)(h2:PSs X rest u):PSs X (st::rest) (kR t u):=by
 intro aa s σ H D I h;refine wpAny_execs_cons (aJ (h1 aa s σ H {D with nx:=u D} I h) fun f a q=>?_);cases f with
 |next=>
  obtain⟨b,H',c,q⟩:=q;exact h2 aa a b H' D c q
 |ret v=>exact q
 |brk=>exact q
 |cont=>exact q
def zd(h1:PS X st t):PSs X [st] t:=by
 intro aa s σ H D I h;refine wpAny_execs_cons (aJ (h1 aa s σ H D I h) fun f a q=>?_);cases f with
 |next=>exact wpAny_execs_nil q
 |ret v=>exact q
 |brk=>exact q
 |cont=>exact q
def Inv.quiet{aa:Ψ}{σ:St}{H:Hp}{s:Shared}(I:Inv X aa σ H s):interactive X.env=false:=by simp[interactive,I.ok.kind]
def CU(te:TE):TS:=fun D σ H=>te σ H fun _ H1=>D.nx σ H1
def fy(he:PE X e te)(hs:swapsWith e none pos.line X.env=pure false:=by rfl):PS X (.Expr e pos) (CU te):=by
 intro aa s σ H D I h;exact wpAny_Expr_any (aJ (he aa s σ H _ I h) fun v c ⟨x,H1,b,d,a⟩=>⟨σ,H1,b,a⟩) I.quiet hs
def q0(te:TE):TS:=fun D σ H=>te σ H D.rt
def zn(he:PE X e te):PS X (.Return (some e) pos) (q0 te):=by
 intro aa s σ H D I h;exact wpAny_Return_some (aJ (he aa s σ H _ I h) fun v d ⟨x,H1,c,a,b⟩=>⟨x,σ,H1,c,a,b⟩)
def q4(c:TT)(t u:TS):TS:=fun D σ H=>c σ H fun b H1=>if b=true then t D σ H1 else u D σ H1
def zP{c:Expr}{a b:List Stmt}{tc:TT}(hc:PT X c tc)(i:PSs X a t)(hb:PSs X b u):PS X (.If c a b pos) (q4 tc t u):=by
 intro aa s σ H D I h;refine wpAny_If (aJ (hc aa s σ H _ I h) fun d e ⟨H1,g,f⟩=>?_);cases d with
 |true=>exact i aa e σ H1 D g f
 |false=>exact hb aa e σ H1 D g f
def CV:TS:=fun _ _ _=>False
def CW{a:List Stmt}:PSs X a CV:=fun _ _ _ _ _ _ h=>h.elim
end
abbrev TG:=V->St->Hp->(St->Hp->Prop)->Prop
abbrev jb:=List V->St->Hp->(St->Hp->Prop)->Prop
def PG(X:Cx)(b:Expr)(t:TG):Prop:=
 ∀(aa:Ψ)(s:Shared)(σ:St)(H:Hp)(v:V)(u:Value)(Q:St->Hp->Prop),Inv X aa σ H s->RelV v u->t v σ H Q->
  wpAny (model X.prog X.w) X.A (assign b X.env u) (fun _ s'=>∃a H',Inv X aa a H' s'/\Q a H') X.xe s
def ni(X:Cx)(ts:List Expr)(t:jb):Prop:=
 ∀(aa:Ψ)(s:Shared)(σ:St)(H:Hp)(vs:List V)(us:List Value)(Q:St->Hp->Prop),Inv X aa σ H s->Vals vs us->t vs σ H Q->
  wpAny (model X.prog X.w) X.A (assignInOrder ((assignEach ts X.env).map (·.2)) us) (fun _ s'=>∃a H',Inv X aa a H' s'/\Q a H') X.xe s
abbrev jc:=V->V->V->Hp->(Hp->Prop)->Prop
def kT(X:Cx)(t:jc):Prop:=
 ∀(aa:Ψ)(s:Shared)(σ:St)(H:Hp)(o i v:V)(a b u:Value)(Q:Hp->Prop),Inv X aa σ H s->RelV o a->RelV i b->RelV v u->t o i v H Q->
  wpAny (model X.prog X.w) X.A (setItem a b u) (fun _ s'=>∃H',Inv X aa σ H' s'/\Q H') X.xe s
section
variable{X:Cx}{pos:Pos}
def cg(i:Nat):TG:=fun v σ H Q=>Q (σ.set i (some v)) H
def zr{i:Nat}{x:Str}(a:X.N.Nodup)(hi:X.N[i]?=some x)(hx:Loc X.env.scope x)(hf:X.fn x=true\/X.env.scope.names.lookup x=some .local:=by first|exact .inl rfl|exact .inr rfl|assumption):PG X (.Name x pos) (cg i):=by
 intro aa s σ H v u Q I r h;exact wpAny_assign_Name (ng I a hi hx r (fun s' b=>⟨_,H,b,h⟩) hf)
def kU:jb:=fun vs σ H Q=>vs=[]/\Q σ H
def q5(t:TG)(u:jb):jb:=fun vs σ H Q=>∃v r,vs=v::r/\t v σ H fun a H'=>u r a H' Q
def CY:ni X [] kU:=by
 intro aa s σ H vs us Q I r h;obtain⟨e,h⟩:=h;subst e;cases r;exact assignInOrder_nil ⟨σ,H,I,h⟩
def xg{e:Expr}{es:List Expr}{t:TG}{u:jb}(h1:PG X e t)(h2:ni X es u)(hs:(assignEach (e::es) X.env).map (·.2)=assign e X.env::(assignEach es X.env).map (·.2):=by rfl):ni X (e::es) (q5 t u):=by
 intro aa s σ H vs us Q I r h;obtain⟨v,f,e1,h⟩:=h;subst e1;cases r with
 |cons r rr=>
  rw[hs];refine assignInOrder_cons (aJ (h1 aa s σ H _ _ _ I r h) fun _ a ⟨b,H1,d,c⟩=>?_);exact h2 aa a b H1 _ _ Q d rr c
def kX(K:Ae)(n:Nat)(t:jb):TG:=fun v σ H Q=>∃a xs,v=.ref a/\SqT K H a xs/\xs.length=n/\t xs σ H Q
def CZ{es:List Expr}{k:Nat}{t:jb}{n:Nat}(hc:X.calm=true)(h:ni X es t)(i:(assignEach es X.env).length=n:=by rfl)(c:(assignEach es X.env).findIdx? (·.1)=none:=by rfl):PG X (.Tuple es k pos) (kX X.K n t):=by
 intro aa s σ H v u Q I r hw;obtain⟨a,xs,e1,hq,f,hw⟩:=hw;subst e1;cases r;obtain⟨l,d,g,hz⟩:=I.tuple hq;refine assign_Tuple_tuple (I.ok.hd hc) g (by simp[i,<-f,d.length]) c fun h' hx=>?_;have j:Inv X aa σ H {s with heap:=h'}:=I.kept (t':=s.toks) fun b o e=>hx b o (Ap (Ao e)) e;exact h aa _ σ H xs _ Q j (by simpa using d) hw
def ri(to a:TE)(t:jc):TG:=fun v σ H Q=>to σ H fun o H1=>a σ H1 fun i H2=>t o i v H2 fun H3=>Q σ H3
def xh{o i:Expr}{to c:TE}{t:jc}(q:PE X o to)(hi:PE X i c)(hs:kT X t)(w:∀v,assign (.Subscript o i pos) X.env v=(do
   let a <-holding [v] (eval o X.env)
   let b <-holding [v,a] (eval i X.env)
   standAt pos
   holding [v,a,b] (setItem a b v)
   release [v,a,b] []):=by intro _;rfl):PG X (.Subscript o i pos) (ri to c t):=by
 intro aa s σ H v u Q I r h;rw[w];refine Aa (AI (aJ (q aa s σ H _ I h) fun a d ⟨x,H1,z,e,f⟩=>?_));refine Aa (AI (aJ (hi aa d σ H1 _ z f) fun b g ⟨y,H2,A,j,l⟩=>?_));refine Aa (wpAny_standAt (Aa (AI (aJ (hs aa g σ H2 x y v a b u _ A e j r l) fun _ D ⟨H3,C,p⟩=>?_))));exact wpAny_release ⟨σ,H3,C,p⟩
def gJ(te:TE)(g:TG):TS:=fun D σ H=>te σ H fun x H1=>g x σ H1 D.nx
def xi{tg e:Expr}{te:TE}{g:TG}(he:PE X e te)(d:PG X tg g)(hs:swapsWithSole [tg] e pos.line X.env=pure false:=by rfl)(hw:swappedStores [tg] e X.env=pure none:=by rfl)(h1:(assignEach [tg] X.env).map (·.2)=[assign tg X.env]:=by rfl):PS X (.Assign [tg] e pos) (gJ te g):=by
 intro aa s σ H D I h;refine wpAny_Assign_stores (aJ (he aa s σ H _ I h) fun v a ⟨x,H1,f,b,c⟩=>?_) hs hw;rw[h1];exact aJ (d aa a σ H1 x v _ f b c) fun _ i q=>q
def zu{i:Nat}{x:Str}{e:Expr}{te:TE}{bg:Pos}(c:X.N.Nodup)(hi:X.N[i]?=some x)(hx:Loc X.env.scope x)(he:PE X e te)(hs:swapsWith e (some (.Name x bg)) pos.line X.env=pure false:=by rfl)(hf:X.fn x=true\/X.env.scope.names.lookup x=some .local:=by first|exact .inl rfl|exact .inr rfl|assumption):PS X (.Assign [.Name x bg] e pos) (gJ te (cg i)):=by
 intro aa s σ H D I h;refine wpAny_Assign_Name (aJ (he aa s σ H _ I h) fun v g ⟨y,H1,d,a,b⟩=>?_) hs;exact ng d c hi hx a (fun j f=>⟨_,H1,f,b⟩) hf
end
structure It where
 go:Nat->Hp->Prop
 yld:Nat->Hp->V->Hp->Prop
 stop:Nat->Hp->Prop
def a'(X:Cx)(aa:Ψ)(H:Hp)(b:Addr):Prop:=
 H b=none/\b≠X.env.locals/\b∉X.fs/\(b∈X.ex\/X.s₀⁻¹<=b)/\(∀x c,X.env.cells.lookup x=some c->c≠b)/\∀p∈X.pn++aa,p.1≠b
def Inv.fpOk{X:Cx}{aa:Ψ}{σ:St}{H H':Hp}{s:Shared}{b:Addr}(I:Inv X aa σ H s)(hb:s⁻¹<=b)(a:H' b=none):a' X aa H' b:=by
 refine⟨a,Nat.ne_of_gt (Az I.lt hb),I.nofs hb,.inr (AF I.sz hb),fun x c e z=>?_,fun p hp z=>?_⟩
 ·obtain⟨v,q⟩:=I.cell x c e
  exact absurd (Az q.lt (by rw[z];exact hb)) (Nat.lt_irrefl _)
 ·exact absurd (Az (Ao (I.pin p hp).1) (by rw[z];exact hb)) (Nat.lt_irrefl _)
structure Turn(P:Program)(w:World)(K:Ae)(tg:Expr)(J:It)(fp:List Addr)(it:Addr)(tn:Nat->Heap->Prop):Prop where
 mem:it∈fp
 obj:∀i h,tn i h->∀b∈fp,∃o,h.get? b=some o/\∀v,o.data≠.cell v
 keep:∀i h h',tn i h->(∀b∈fp,∀o,h.get? b=some o->h'.get? b=some o)->tn i h'
 item:∀(X:Cx),X.prog=P->X.w=w->X.K=K->X.calm=true->∀(i:Nat)(aa:Ψ)(s:Shared)(σ:St)(H:Hp)(E:Ω),Inv X aa σ H s->(∀b∈fp,a' X aa H b)->tn i s.heap->J.go i H->
  wpAny (model P w) X.A (pyNext (.ref it)) (fun r s1=>∃u,r=some u/\
   wpAny (model P w) X.A (letOwnedTupleGo tg (.ref it) u) (fun _ s2=>∃x H',Inv X aa σ H' s2/\RelV x u/\J.yld i H x H'/\tn (i+1) s2.heap/\∀b∈fp,H' b=none) E s1) E s
 done:∀(X:Cx),X.prog=P->X.w=w->X.K=K->X.calm=true->∀(i:Nat)(aa:Ψ)(s:Shared)(σ:St)(H:Hp)(E:Ω),Inv X aa σ H s->(∀b∈fp,a' X aa H b)->tn i s.heap->J.stop i H->
  wpAny (model P w) X.A (pyNext (.ref it)) (fun r s1=>r=none/\Inv X aa σ H s1) E s
 self:∀(A:Around)(i:Nat)(s:Shared)(Q:Ω)(E:Ω),tn i s.heap->Q (.ref it) s->wpAny (model P w) A (pyIter (.ref it)) Q E s
abbrev TI:=St->Hp->(It->Hp->Prop)->Prop
def xj(X:Cx)(aa:Ψ)(σ:St)(tg:Expr)(R:It->Hp->Prop)(d:Value)(a:Shared):Prop:=
 ∃(it:Addr)(fp:List Addr)(c:Nat->Heap->Prop)(J:It)(H':Hp),d=.ref it/\Inv X aa σ H' a/\Turn X.prog X.w X.K tg J fp it c/\c 0 a.heap/\(∀b∈fp,a' X aa H' b)/\R J H'
def PI(X:Cx)(tg iter:Expr)(wi:TI):Prop:=
 ∀(aa:Ψ)(s:Shared)(σ:St)(H:Hp)(R:It->Hp->Prop),Inv X aa σ H s->wi σ H R->
  wpAny (model X.prog X.w) X.A (eval iter X.env) (fun v a=>wpAny (model X.prog X.w) X.A (pyIter v) (xj X aa σ tg R) X.xe a) X.xe s
def nt{M:Model}{A:Around}{E:Ω}{s:Shared}{tg:Expr}{it:Addr}{u:Value}{o:Obj}{n:String}{vs:Array Value}{Q:Unit->Shared->Prop}(b:s.heap.get? it=some o)(hc:o.cls=.type n)(hd:o.data=.fields vs)(c:["enumerate","zip","dict_itemiterator","dict_reverseitemiterator","odict_iterator","itertools.zip_longest","itertools.pairwise"].contains n=false)(a:Q () s):wpAny M A (letOwnedTupleGo tg (.ref it) u) Q E s:=by
 unfold letOwnedTupleGo;cases tg<;>first
  |exact Ac a
  |(cases u<;>first
    |exact Ac a
    |(refine Aa (wpAny_load b ?_);rw[hc,hd];show wpAny M A (if(["enumerate","zip","dict_itemiterator","dict_reverseitemiterator","odict_iterator","itertools.zip_longest","itertools.pairwise"].contains n&&vs[0]?==some (rawInt _))=true then _ else _) Q E s;rw[if_neg (by intro h;rw[c,Bool.false_and] at h;cases h)];exact Ac a))
def di(K:Ae)(a:Addr):It:=
 ⟨fun i H=>∃xs x,SqL K H a xs/\xs[i]?=some x,fun i H x H'=>H'=H/\∀xs,SqL K H a xs->xs[i]?=some x,fun i H=>∃xs,SqL K H a xs/\xs.length<=i⟩
def iA(K:Ae)(a:Addr):It:=
 ⟨fun i H=>∃xs x,SqT K H a xs/\xs[i]?=some x,fun i H x H'=>H'=H/\∀xs,SqT K H a xs->xs[i]?=some x,fun i H=>∃xs,SqT K H a xs/\xs.length<=i⟩
def gM(lo:Int)(n:Nat):It:=⟨fun i _=>i<n,fun i H x H'=>H'=H/\x=.int (lo+i),fun i _=>n<=i⟩
def C0{P:Program}{w:World}{K:Ae}{tg:Expr}(a it:Addr):Turn P w K tg (di K a) [it] it (fun i h=>h.IsListIter it a i) where
 mem:=by simp
 obj:=fun i h st b hb=>by
  have e:b=it:=by simpa using hb
  subst e;obtain⟨o,e,c,d⟩:=st;exact⟨o,e,fun v z=>by rw[d] at z;cases z⟩
 keep:=fun i h h' st k=>st.at fun o e=>k it (by simp) o e
 item:=by
  intro X f hw g hc i aa s σ H E I hf st j;subst f hw g;obtain⟨xs,x,hq,hx⟩:=j;obtain⟨F,l,p,hz⟩:=I.list hq;obtain⟨u,hu,G⟩:=l.get hx;obtain⟨q,f1,f2,r,y,f5⟩:=hf it (by simp);refine wpAny_pyNext_list_item st p.isList (x:=u) (by simpa using hu) fun h' A C=>?_;have J:Inv X aa σ H {s with heap:=h'}:=I.turned (t':=s.toks) (fun b o hb e=>(C.2 b hb).trans e) q f1 r y f5;obtain⟨o,e,c,d⟩:=id A;exact⟨u,rfl,nt (s:={s with heap:=h'}) e c d ξ ⟨x,H,J,G,⟨rfl,fun ys hy=>by rw[I.list_inj hy hq];exact hx⟩,A,fun b hb=>(hf b hb).1⟩⟩
 done:=by
  intro X f hw g hc i aa s σ H E I hf st j;subst f hw g;obtain⟨xs,hq,hx⟩:=j;obtain⟨F,l,p,hz⟩:=I.list hq;obtain⟨q,f1,f2,r,y,f5⟩:=hf it (by simp);have L:=l.length;exact wpAny_pyNext_list_end (I.ok.hd hc) st p.isList (by simp;omega) fun h' D=>⟨rfl,I.turned (t':=s.toks) (fun b o hb e=>D b o hb e) q f1 r y f5⟩
 self:=fun _ _ _ _ _ st h=>wpAny_pyIter_listiter st h
def C1{P:Program}{w:World}{K:Ae}{tg:Expr}(a it:Addr):Turn P w K tg (iA K a) [it] it (fun i h=>h.IsTupleIter it a i) where
 mem:=by simp
 obj:=fun i h st b hb=>by
  have e:b=it:=by simpa using hb
  subst e;obtain⟨o,e,c,d⟩:=st;exact⟨o,e,fun v z=>by rw[d] at z;cases z⟩
 keep:=fun i h h' st k=>st.at fun o e=>k it (by simp) o e
 item:=by
  intro X f hw g hc i aa s σ H E I hf st j;subst f hw g;obtain⟨xs,x,hq,hx⟩:=j;obtain⟨l,q,p,hz⟩:=I.tuple hq;obtain⟨u,hu,G⟩:=q.get hx;obtain⟨r,f1,f2,y,A,f5⟩:=hf it (by simp);refine wpAny_pyNext_tuple_item st (show s.heap.IsTuple a l.toArray from p) (x:=u) (by simpa using hu) fun h' C D=>?_;have J:Inv X aa σ H {s with heap:=h'}:=I.turned (t':=s.toks) (fun b o hb e=>(D.2 b hb).trans e) r f1 y A f5;obtain⟨o,e,c,d⟩:=id C;exact⟨u,rfl,nt (s:={s with heap:=h'}) e c d ξ ⟨x,H,J,G,⟨rfl,fun ys hy=>by rw[I.tuple_inj hy hq];exact hx⟩,C,fun b hb=>(hf b hb).1⟩⟩
 done:=by
  intro X f hw g hc i aa s σ H E I hf st j;subst f hw g;obtain⟨xs,hq,hx⟩:=j;obtain⟨l,q,p,hz⟩:=I.tuple hq;obtain⟨r,f1,f2,y,A,f5⟩:=hf it (by simp);have L:=q.length;exact wpAny_pyNext_tuple_end (I.ok.hd hc) st (show s.heap.IsTuple a l.toArray from p) (by simp;omega) fun h' F=>⟨rfl,I.turned (t':=s.toks) (fun b o hb e=>F b o hb e) r f1 y A f5⟩
 self:=fun _ _ _ _ _ st h=>wpAny_pyIter_tupleiter st h
def C2{P:Program}{w:World}{K:Ae}{tg:Expr}(it:Addr)(lo:Int)(n:Nat):Turn P w K tg (gM lo n) [it] it (fun i h=>IsRangeIter h it (lo+(i:Nat)*1) ((n:Int)-(i:Nat)) 1) where
 mem:=by simp
 obj:=fun i h st b hb=>by
  have e:b=it:=by simpa using hb
  subst e;exact⟨_,st,fun v z=>by
   have u:Data.fields _=Data.cell v:=z;cases u⟩
 keep:=fun i h h' st k=>k it (by simp) _ st
 item:=by
  intro X a hw c hc i aa s σ H E I hf st d;subst a hw c;obtain⟨f,f1,f2,g,j,f5⟩:=hf it (by simp);have W:=Walks.range (prog:=X.prog) (w:=X.w) (I.ok.hd hc) it lo 1 n;refine W.item i s _ _ d st fun v h' tk p l q=>?_;obtain⟨t,rfl⟩:=p;have x:Inv X aa σ H {s with heap:=h',toks:=tk}:=I.turned (fun b o hb e=>q b o (by simpa using hb) e) f f1 g j f5;refine⟨_,rfl,nt (s:={s with heap:=h',toks:=tk}) (n:="range_iterator") l rfl rfl ξ ⟨.int (lo+i),H,x,⟨t,?_⟩,⟨rfl,rfl⟩,l,fun b hb=>(hf b hb).1⟩⟩;rw[Int.mul_one]
 done:=by
  intro X a hw c hc i aa s σ H E I hf st d;subst a hw c;obtain⟨f,f1,f2,g,j,f5⟩:=hf it (by simp);exact wpAny_pyNext_range_end (I.ok.hd hc) st (by have:n<=i:=d;omega) fun h' r=>⟨rfl,I.turned (t':=s.toks) (fun b o hb e=>r b o hb e) f f1 g j f5⟩
 self:=fun _ _ _ _ _ st h=>wpAny_pyIter_rangeiter st h
section
variable{X:Cx}{tg:Expr}
def C3(K:Ae)(tl:TE):TI:=fun σ H R=>tl σ H fun x H1=>∃a,x=.ref a/\(∃xs,SqL K H1 a xs)/\R (di K a) H1
def k4(K:Ae)(tl:TE):TI:=fun σ H R=>tl σ H fun x H1=>∃a,x=.ref a/\(∃xs,SqT K H1 a xs)/\R (iA K a) H1
def zA{l:Expr}{tl:TE}(g:PE X l tl):PI X tg l (C3 X.K tl):=by
 intro aa s σ H R I h;refine aJ (g aa s σ H _ I h) fun v c ⟨x,H1,I1,d,f⟩=>?_;obtain⟨a,e,⟨xs,hq⟩,q⟩:=f;subst e;cases d;obtain⟨i,j,p,hz⟩:=I1.list hq;refine wpAny_pyIter_list p.isList ?_;refine⟨c⁻¹,[c⁻¹],_,_,H1,rfl,I1.kept (t':=c.toks) fun b o e=>Ad _ e,C0 a _,⟨_,Ar _ rfl,rfl,rfl⟩,fun b hb=>?_,q⟩;have e:b=c⁻¹:=by simpa using hb
 subst e;exact I1.fpOk (Ah _) (I1.hok.fresh (Ah _))
def k7{l:Expr}{tl:TE}(i:PE X l tl):PI X tg l (k4 X.K tl):=by
 intro aa s σ H R I h;refine aJ (i aa s σ H _ I h) fun v c ⟨x,H1,I1,d,f⟩=>?_;obtain⟨a,e,⟨xs,hq⟩,q⟩:=f;subst e;cases d;obtain⟨g,j,p,hz⟩:=I1.tuple hq;refine wpAny_pyIter_tuple (show c.heap.IsTuple a g.toArray from p) ?_;refine⟨c⁻¹,[c⁻¹],_,_,H1,rfl,I1.kept (t':=c.toks) fun b o e=>Ad _ e,C1 a _,⟨_,Ar _ rfl,rfl,rfl⟩,fun b hb=>?_,q⟩;have e:b=c⁻¹:=by simpa using hb
 subst e;exact I1.fpOk (Ah _) (I1.hok.fresh (Ah _))
def C4{aa:Ψ}{σ:St}{H:Hp}{s:Shared}{R:It->Hp->Prop}{E:Ω}{lo hi:Int}{t u v:Tok}{tk:Nat}(I:Inv X aa σ H s)(h1:-(2 ^ 62)<=lo)(h2:lo<2 ^ 62)(a:-(2 ^ 62)<=hi)(c:hi<2 ^ 62)(q:R (gM lo (hi-lo).toNat) H):wpAny (model X.prog X.w) X.A (pyIter (.ref s⁻¹)) (xj X aa σ tg R) E {s with heap:=s.heap.push {cls:=.type "range",data:=.fields #[.int lo t,.int hi u,.int 1 v]},toks:=tk}:=by
 refine wpAny_pyIter_range (IsRange.new ..) (small_one h1 h2 a c) ?_;have I1:Inv X aa σ H {s with heap:=s.heap.push {cls:=.type "range",data:=.fields #[.int lo t,.int hi u,.int 1 v]},toks:=tk}:=I.kept fun b o e=>Ad _ e;refine⟨(s.heap.push {cls:=.type "range",data:=.fields #[.int lo t,.int hi u,.int 1 v]}).objs.size,[(s.heap.push {cls:=.type "range",data:=.fields #[.int lo t,.int hi u,.int 1 v]}).objs.size],_,_,H,rfl,
  I1.kept (t':=tk) fun b o e=>Ad _ e,C2 _ lo (hi-lo).toNat,?_,fun b hb=>?_,q⟩
 ·have e1:lo+((0:Nat):Int)*1=lo:=by simp
  have e2:(((hi-lo).toNat:Nat):Int)-((0:Nat):Int)=Builtin.Range.rangeSize lo hi 1:=by rw[rangeSize_one];split<;>omega
  show IsRangeIter _ _ (lo+((0:Nat):Int)*1) ((((hi-lo).toNat:Nat):Int)-((0:Nat):Int)) 1;rw[e1,e2];exact Ar _ rfl
 ·have e:b=(s.heap.push {cls:=.type "range",data:=.fields #[.int lo t,.int hi u,.int 1 v]}).objs.size:=by simpa using hb
  subst e;exact I1.fpOk (Ah _) (I1.hok.fresh (Ah _))
def C5(ta:TA):TI:=fun σ H R=>ta σ H fun vs H1=>∃j:Int,vs=[.int j]/\-(2 ^ 62)<=j/\j<2 ^ 62/\R (gM 0 j.toNat) H1
def iC{a:Expr}{ta:TA}{p pos:Pos}(f:Gl X "range")(hm:X.mg "range"=none)(g:PA X [a] ta)(hs:starEach [a] X.env=[(false,eval a X.env)]:=by rfl):PI X tg (.Call (.Name "range" p) [a] [] pos) (C5 ta):=by
 intro aa s σ H R I h;refine Call_ (i_ I f hm boot_range (PyProof.Rows.callWith_type1 (aJ (g pos aa s σ H _ I h) fun us l ⟨vs,H1,i,c,b⟩=>?_) hs rfl));obtain⟨j,e,b,d,q⟩:=b;subst e;cases c with
 |cons r rr=>
  cases rr;obtain⟨t,rfl⟩:=r;exact call_range_1 (C4 i ω ω b d (by simpa using q))
def rj(wi:TI)(g:TG)(tb:TS):TS:=fun D σ H=>wi σ H fun J H1=>∃W:Nat->Nat->St->Hp->Prop,(∃m,W 0 m σ H1)/\∀i m σ H,W i m σ H->
 (J.stop i H/\D.nx σ H)\/(J.go i H/\∃N:St->Hp->Prop,(∀a H',N a H'->∃b,b<m/\W (i+1) b a H')/\∀x H',J.yld i H x H'->g x σ H' fun c H2=>tb {D with nx:=N,ct:=N,bk:=D.nx} c H2)
def k8(fp:List Addr)(h:Heap):Ψ:=fp.filterMap fun b=>(h.get? b).map fun o=>(b,o)
def nu{fp:List Addr}{h:Heap}{b:Addr}{o:Obj}(hb:b∈fp)(e:h.get? b=some o):(b,o)∈k8 fp h:=List.mem_filterMap.mpr ⟨b,hb,by rw[e];rfl⟩
def C6{fp:List Addr}{h:Heap}{p:Addr×Obj}(hp:p∈k8 fp h):p.1∈fp/\h.get? p.1=some p.2:=by
 obtain⟨b,hb,e⟩:=List.mem_filterMap.mp hp;cases q:h.get? b with
 |none=>rw[q] at e;cases e
 |some o=>
  rw[q] at e;have e':(b,o)=p:=Al e;subst e';exact⟨hb,q⟩
def Inv.pinned{aa:Ψ}{σ:St}{H:Hp}{s:Shared}{fp:List Addr}(I:Inv X aa σ H s)(hf:∀b∈fp,a' X aa H b)(c:∀b∈fp,∃o,s.heap.get? b=some o/\∀v,o.data≠.cell v):Inv X (aa++k8 fp s.heap) σ H s:=
 I.pins_of fun p hp=>(List.mem_append.mp hp).elim (fun z=>I.pin p (List.mem_append_right _ z)) fun z=>by
  obtain⟨hb,e⟩:=C6 z;obtain⟨a,f1,f2,_⟩:=hf p.1 hb;obtain⟨o,e',d⟩:=c p.1 hb;rw[e] at e';cases e';exact⟨e,a,f1,f2,d⟩
def Inv.unpinned{aa a:Ψ}{σ:St}{H:Hp}{s:Shared}(I:Inv X (aa++a) σ H s):Inv X aa σ H s:=I.pins_of fun p hp=>I.pin p (List.mem_append_right _ (List.mem_append_left _ hp))
def dF{iter:Expr}{body:List Stmt}{wi:TI}{g:TG}{tb:TS}{pos:Pos}(hp:PassesOwn (model X.prog X.w) X.A X.env X.xe)(hc:X.calm=true)(hi:PI X tg iter wi)(hg:PG X tg g)(hb:PSs X body tb)(hs:∀x,foldedSetIterable iter X.env x=pure x:=by intro _;rfl):PS X (.For tg iter body [] pos) (rj wi g tb):=by
 intro aa s σ H D I h;refine wpAny_For (aJ (hi aa s σ H _ I h) fun v s1 h1=>aJ h1 fun mD s2 h2=>?_) hs;obtain⟨it,fp,G,J,H2,e,I2,T,de,f2,W,⟨m0,w0⟩,turn⟩:=h2;subst e;have c:∀{H':Hp},(∀b∈fp,H' b=none)->∀b∈fp,a' X aa H' b:=fun S b hb=>⟨S b hb,(f2 b hb).2⟩;refine codeAny_forLoop_any (fun n s'=>∃i y H',Inv X aa y H' s'/\G i s'.heap/\(∀b∈fp,H' b=none)/\W i n y H') ?_ m0 ⟨0,σ,H2,I2,de,fun b hb=>(f2 b hb).1,w0⟩;rintro n L ⟨i,z,H3,Q,M,O,w3⟩;rcases turn i n z H3 w3 with ⟨stop,qn⟩|⟨go,N,hN,step⟩
 ·refine wpAny_passesOwn hp (aJ (T.done X rfl rfl rfl hc i aa L z H3 X.xe Q (c O) M stop) fun r U ⟨hr,I4⟩=>?_)
  subst hr;exact wpAny_execs_nil ⟨z,H3,I4,qn⟩
 ·refine wpAny_passesOwn hp (aJ (T.item X rfl rfl rfl hc i aa L z H3 X.xe Q (c O) M go) fun r U ⟨u,hr,Y⟩=>?_)
  subst hr;refine wpAny_passesOwn hp (aJ Y fun _ F ⟨x,P,I5,r5,y5,p,C⟩=>?_);have lW:=I5.pinned (c C) (T.obj _ _ p);refine wpAny_passesOwn hp (aJ (hg _ F z P x u _ lW r5 (step x P y5)) fun _ s6 ⟨ku,H6,I6,q6⟩=>?_);refine wpAny_passesOwn hp (aJ (hb _ s6 ku H6 _ I6 q6) fun f E l=>?_);have again:∀{a:St}{j:Hp},Inv X (aa++k8 fp F.heap) a j E->N a j->∃m,m<n/\∃i y H',Inv X aa y H' E/\G i E.heap/\(∀b∈fp,H' b=none)/\W i m y H':=fun{a j} I7 q=>by
   obtain⟨m',hm,w7⟩:=hN a j q;refine⟨m',hm,i+1,a,j,I7.unpinned,T.keep _ _ _ p fun b hb o e=>(I7.pin (b,o) (List.mem_append_right _ (List.mem_append_right _ (nu hb e)))).1,fun b hb=>?_,w7⟩;obtain⟨o,e,d⟩:=T.obj _ _ p b hb;exact(I7.pin (b,o) (List.mem_append_right _ (List.mem_append_right _ (nu hb e)))).2.1
  cases f with
  |next=>obtain⟨a,j,I7,q⟩:=l;exact again I7 q
  |cont=>obtain⟨a,j,I7,q⟩:=l;exact again I7 q
  |brk=>obtain⟨a,j,I7,l⟩:=l;exact⟨a,j,I7.unpinned,l⟩
  |ret v=>obtain⟨x7,a,j,I7,r7,l⟩:=l;exact⟨x7,a,j,I7.unpinned,r7,l⟩
end
def gO{K:Ae}{a:Addr}{xs:List V}{g:TG}{tb:TS}{D:Ends}{σ:St}{H:Hp}(b:Nat->St->Hp->Prop)(l:b 0 σ H)(o:∀i σ H,i<=xs.length->b i σ H->SqL K H a xs)(hs:∀i x σ H,xs[i]?=some x->b i σ H->g x σ H fun d H2=>tb {D with nx:=b (i+1),ct:=b (i+1),bk:=D.nx} d H2)(hd:∀σ H,b xs.length σ H->D.nx σ H):∃W:Nat->Nat->St->Hp->Prop,(∃m,W 0 m σ H)/\∀i m σ H,W i m σ H->
   ((di K a).stop i H/\D.nx σ H)\/((di K a).go i H/\∃N:St->Hp->Prop,(∀f H',N f H'->∃h,h<m/\W (i+1) h f H')/\∀x H',(di K a).yld i H x H'->g x σ H' fun d H2=>tb {D with nx:=N,ct:=N,bk:=D.nx} d H2):=by
 refine⟨fun i m σ H=>m=xs.length-i/\i<=xs.length/\b i σ H,⟨xs.length,by simp,AK _,l⟩,?_⟩;rintro i m σ H ⟨rfl,hi,p⟩;have q:=o i σ H hi p
 by_cases c:i<xs.length
 ·refine .inr ⟨⟨xs,xs[i],q,by simp[c]⟩,b (i+1),fun f H' j=>⟨xs.length-(i+1),ω,rfl,c,j⟩,fun x H' y=>?_⟩
  obtain⟨e,y⟩:=y;subst e;exact hs i x σ _ (y xs q) p
 ·have e:i=xs.length:=ω
  subst e;exact .inl ⟨⟨xs,q,Ah _⟩,hd σ H p⟩
def xk{K:Ae}{a:Addr}{xs:List V}{g:TG}{tb:TS}{D:Ends}{σ:St}{H:Hp}(b:Nat->St->Hp->Prop)(l:b 0 σ H)(o:∀i σ H,i<=xs.length->b i σ H->SqT K H a xs)(hs:∀i x σ H,xs[i]?=some x->b i σ H->g x σ H fun d H2=>tb {D with nx:=b (i+1),ct:=b (i+1),bk:=D.nx} d H2)(hd:∀σ H,b xs.length σ H->D.nx σ H):∃W:Nat->Nat->St->Hp->Prop,(∃m,W 0 m σ H)/\∀i m σ H,W i m σ H->
   ((iA K a).stop i H/\D.nx σ H)\/((iA K a).go i H/\∃N:St->Hp->Prop,(∀f H',N f H'->∃h,h<m/\W (i+1) h f H')/\∀x H',(iA K a).yld i H x H'->g x σ H' fun d H2=>tb {D with nx:=N,ct:=N,bk:=D.nx} d H2):=by
 refine⟨fun i m σ H=>m=xs.length-i/\i<=xs.length/\b i σ H,⟨xs.length,by simp,AK _,l⟩,?_⟩;rintro i m σ H ⟨rfl,hi,p⟩;have q:=o i σ H hi p
 by_cases c:i<xs.length
 ·refine .inr ⟨⟨xs,xs[i],q,by simp[c]⟩,b (i+1),fun f H' j=>⟨xs.length-(i+1),ω,rfl,c,j⟩,fun x H' y=>?_⟩
  obtain⟨e,y⟩:=y;subst e;exact hs i x σ _ (y xs q) p
 ·have e:i=xs.length:=ω
  subst e;exact .inl ⟨⟨xs,q,Ah _⟩,hd σ H p⟩
def jU{lo:Int}{n:Nat}{g:TG}{tb:TS}{D:Ends}{σ:St}{H:Hp}(b:Nat->St->Hp->Prop)(j:b 0 σ H)(hs:∀i σ H,i<n->b i σ H->g (.int (lo+i)) σ H fun c H2=>tb {D with nx:=b (i+1),ct:=b (i+1),bk:=D.nx} c H2)(hd:∀σ H,b n σ H->D.nx σ H):∃W:Nat->Nat->St->Hp->Prop,(∃m,W 0 m σ H)/\∀i m σ H,W i m σ H->
   ((gM lo n).stop i H/\D.nx σ H)\/((gM lo n).go i H/\∃N:St->Hp->Prop,(∀d H',N d H'->∃f,f<m/\W (i+1) f d H')/\∀x H',(gM lo n).yld i H x H'->g x σ H' fun c H2=>tb {D with nx:=N,ct:=N,bk:=D.nx} c H2):=by
 refine⟨fun i m σ H=>m=n-i/\i<=n/\b i σ H,⟨n,by simp,AK _,j⟩,?_⟩;rintro i m σ H ⟨rfl,hi,p⟩
 by_cases a:i<n
 ·refine .inr ⟨a,b (i+1),fun d H' h=>⟨n-(i+1),ω,rfl,a,h⟩,fun x H' y=>?_⟩
  obtain⟨e,y⟩:=y;subst e y;exact hs i σ _ a p
 ·have e:i=n:=ω
  subst e;exact .inl ⟨Ah _,hd σ H p⟩
abbrev R2:=V->V->Hp->VK->Prop
def bw(X:Cx)(f:Value->Value->Sem Value)(r:R2):Prop:=
 ∀(aa:Ψ)(s:Shared)(σ:St)(H:Hp)(x y:V)(v u:Value)(Q:VK),Inv X aa σ H s->RelV x v->RelV y u->r x y H Q->
  wpAny (model X.prog X.w) X.A (f v u) (EP X aa σ Q) X.xe s
def rm(X:Cx)(f:Value->Sem Value)(r:V->Hp->VK->Prop):Prop:=
 ∀(aa:Ψ)(s:Shared)(σ:St)(H:Hp)(x:V)(v:Value)(Q:VK),Inv X aa σ H s->RelV x v->r x H Q->
  wpAny (model X.prog X.w) X.A (f v) (EP X aa σ Q) X.xe s
def bU(X:Cx)(f:Value)(r:List V->Hp->VK->Prop):Prop:=
 ∀(aa:Ψ)(s:Shared)(σ:St)(H:Hp)(xs:List V)(us:List Value)(Q:VK),Inv X aa σ H s->Vals xs us->r xs H Q->
  wpAny (model X.prog X.w) X.A (call f us) (EP X aa σ Q) X.xe s
def da(r:R2)(ta tb:TE):TE:=fun σ H Q=>ta σ H fun x H1=>tb σ H1 fun y H2=>r x y H2 Q
def C7(r:V->Hp->VK->Prop)(ta:TE):TE:=fun σ H Q=>ta σ H fun x H1=>r x H1 Q
def rI(C:Int->Int->Prop)(g:Int->Int->V):R2:=fun x y H Q=>∃i j,x=.int i/\y=.int j/\C i j/\Q (g i j) H
def eu(g:Int->Int->V):R2:=fun x y H Q=>∃i j,x=.int i/\y=.int j/\Q (g i j) H
def rU(g:Int->V):V->Hp->VK->Prop:=fun x H Q=>∃i,x=.int i/\Q (g i) H
section
variable{X:Cx}{a b c:Expr}{ta tb tc:TE}{pos:Pos}
def jf(p:PE X a ta)(hb:PE X b tb){aa:Ψ}{s:Shared}{σ:St}{H:Hp}{R:V->V->Hp->Prop}(I:Inv X aa σ H s)(h:ta σ H fun x H1=>tb σ H1 fun y H2=>R x y H2){Q:Ω}{f:Value->Value->Sem Value}(hf:∀v u c x y H2,Inv X aa σ H2 c->RelV x v->RelV y u->R x y H2->wpAny (model X.prog X.w) X.A (f v u) Q X.xe c):wpAny (model X.prog X.w) X.A (eval a X.env) (fun v d=>wpAny (model X.prog X.w) X.A (eval b X.env) (fun u e=>wpAny (model X.prog X.w) X.A (f v u) Q X.xe e) X.xe d) X.xe s:=by
 refine aJ (p aa s σ H _ I h) fun v g ⟨x,H1,q,i,j⟩=>?_;refine aJ (hb aa g σ H1 _ q j) fun u c ⟨y,H2,r,l,o⟩=>?_;exact hf v u c x y H2 r i l o
def zz{op:Operator}{r:R2}(f:bw X (binaryOp op) r)(g:PE X a ta)(hb:PE X b tb):PE X (.BinOp a op b pos) (da r ta tb):=by
 intro aa s σ H Q I h;exact wpAny_BinOp (jf g hb I h fun v u c x y H2 i d e q=>f aa c σ H2 x y v u Q i d e q)
def C8{op:UnaryOp}{r:V->Hp->VK->Prop}(e:rm X (unaryOp op) r)(f:PE X a ta):PE X (.UnaryOp op a pos) (C7 r ta):=by
 intro aa s σ H Q I h;exact UnaryOp_ (aJ (f aa s σ H _ I h) fun v b ⟨x,H1,g,c,d⟩=>e aa b σ H1 x v Q g c d)
def nw{f:Value->Value->Sem Value}{C:Int->Int->Prop}{g:Int->Int->Int}(rule:∀(i j:Int)(t u:Tok)(s:Shared)(Q:Ω)(E:Ω),C i j->Q (.int (g i j) s.toks) {s with toks:=s.toks+1}->wpAny (model X.prog X.w) X.A (f (.int i t) (.int j u)) Q E s):bw X f (rI C fun i j=>.int (g i j)):=by
 intro aa s σ H x y v u Q I a b h;obtain⟨i,j,rfl,rfl,hc,q⟩:=h;obtain⟨t,rfl⟩:=a;obtain⟨t',rfl⟩:=b;exact rule i j t t' s _ _ hc ⟨.int (g i j),H,I.tok _,⟨_,rfl⟩,q⟩
def k9{f:Value->Value->Sem Value}{g:Int->Int->Int}(rule:∀(i j:Int)(t u:Tok)(s:Shared)(Q:Ω)(E:Ω),Q (.int (g i j) s.toks) {s with toks:=s.toks+1}->wpAny (model X.prog X.w) X.A (f (.int i t) (.int j u)) Q E s):bw X f (eu fun i j=>.int (g i j)):=by
 intro aa s σ H x y v u Q I a b h;obtain⟨i,j,rfl,rfl,q⟩:=h;obtain⟨t,rfl⟩:=a;obtain⟨t',rfl⟩:=b;exact rule i j t t' s _ _ ⟨.int (g i j),H,I.tok _,⟨_,rfl⟩,q⟩
def gP{f:Value->Value->Sem Value}{g:Int->Int->Bool}(rule:∀(i j:Int)(t u:Tok)(s:Shared)(Q:Ω)(E:Ω),Q (.bool (g i j)) s->wpAny (model X.prog X.w) X.A (f (.int i t) (.int j u)) Q E s):bw X f (eu fun i j=>.bl (g i j)):=by
 intro aa s σ H x y v u Q I a b h;obtain⟨i,j,rfl,rfl,q⟩:=h;obtain⟨t,rfl⟩:=a;obtain⟨t',rfl⟩:=b;exact rule i j t t' s _ _ ⟨.bl (g i j),H,I,rfl,q⟩
def la(i j:Int):Prop:=0<=j/\j<=1000000/\i.natAbs<2 ^ 64
def CMul(i j:Int):Prop:=(-(2 ^ 64)<i/\i<2 ^ 64)\/(-(2 ^ 64)<j/\j<2 ^ 64)
def CMul.ok{i j:Int}(h:CMul i j):IntMulOk i j:=by
 rcases h with ⟨h1,h2⟩|⟨h1,h2⟩
 ·exact .of_left (intBits_le_64 h1 h2)
 ·exact .of_right (intBits_le_64 h1 h2)
def fe:bw X (binaryOp .Add) (eu fun i j=>.int (i+j)):=k9 fun _ _ _ _ _ _ _ q=>add_int q
def jg:bw X (binaryOp .Sub) (eu fun i j=>.int (i-j)):=k9 fun _ _ _ _ _ _ _ q=>sub_int q
def jV:bw X (binaryOp .Mult) (rI CMul fun i j=>.int (i*j)):=nw fun _ _ _ _ _ _ _ hc q=>mul_int q hc.ok
def jk:bw X (binaryOp .Mod) (rI (fun _ j=>0<j) fun i j=>.int (i%j)):=nw fun i j _ _ _ _ _ hc q=>by
 have h1:(0:Int)<j:=hc;exact mod_int' ω (by rw[Int.fmod_eq_emod_of_nonneg i ω];exact q)
def jW:bw X (binaryOp .Pow) (rI la fun i j=>.int (i ^ j.toNat)):=nw fun _ _ _ _ _ _ _ hc q=>pow_int_small hc.1 hc.2.1 hc.2.2 q
def C9{f:Value->Sem Value}{g:Int->Int}(rule:∀(i:Int)(t:Tok)(s:Shared)(Q:Ω)(E:Ω),Q (.int (g i) s.toks) {s with toks:=s.toks+1}->wpAny (model X.prog X.w) X.A (f (.int i t)) Q E s):rm X f (rU fun i=>.int (g i)):=by
 intro aa s σ H x v Q I a h;obtain⟨i,rfl,q⟩:=h;obtain⟨t,rfl⟩:=a;exact rule i t s _ _ ⟨.int (g i),H,I.tok _,⟨_,rfl⟩,q⟩
def C_:rm X (unaryOp .USub) (rU fun i=>.int (-i)):=C9 fun _ _ _ _ _ q=>neg_int q
end
def lb:V->V->Bool
 |.non,.non=>true|.non,.int _=>true|.int _,.non=>true|.non,.bl _=>true|.bl _,.non=>true|.non,.str _=>true|.str _,.non=>true
 |.int _,.int _=>true|.bl _,.bl _=>true|.str _,.str _=>true|.byt _,.byt _=>true
 |.int _,.str _=>true|.str _,.int _=>true|.bl _,.str _=>true|.str _,.bl _=>true
 |_,_=>false
def xl:R2:=fun x y H Q=>lb x y=true/\Q (.bl (decide (x=y))) H
def Da:R2:=fun x y H Q=>lb x y=true/\Q (.bl (!decide (x=y))) H
def xm{i j:Int}:decide (V.int i=V.int j)=(i==j):=by
 rw[Bool.eq_iff_iff];simp
def fA{i j:Bool}:decide (V.bl i=V.bl j)=(i==j):=by
 rw[Bool.eq_iff_iff];simp
def xn{i j:Str}:decide (V.str i=V.str j)=(i==j):=by
 rw[Bool.eq_iff_iff];simp
def xo{i j:Array UInt8}:decide (V.byt i=V.byt j)=(i.toList==j.toList):=by
 rw[Bool.eq_iff_iff];cases i;cases j;simp
section
variable{X:Cx}{a b c:Expr}{ta tb tc:TE}{pos:Pos}
def ar{aa:Ψ}{σ:St}{H:Hp}{s:Shared}{Q:VK}{k a:Bool}(I:Inv X aa σ H s)(q:Q (.bl k) H)(e:k=a):EP X aa σ Q (.bool a) s:=by
 subst e;exact⟨.bl k,H,I,rfl,q⟩
def c5:bw X (Bg .Eq) xl:=by
 intro aa s σ H x y v u Q I b a h;obtain⟨hs,q⟩:=h;cases x with
 |non=>
  cases b;cases y with
  |non=>cases a;exact PySem.EqNone.eq_none_none (ar I q (by simp))
  |bl j=>cases a;exact PySem.EqNone.eq_none_bool (ar I q (by simp))
  |int j=>obtain⟨t',rfl⟩:=a;exact PySem.EqNone.eq_none_int (ar I q (by simp))
  |str j=>obtain⟨t',rfl⟩:=a;exact PySem.EqNone.eq_none_str (ar I q (by simp))
  |_=>exact absurd (show false=true from hs) Au
 |bl i=>
  cases b;cases y with
  |non=>cases a;exact PySem.EqNone.eq_bool_none (ar I q (by simp))
  |bl j=>cases a;exact eq_bool (ar I q fA)
  |str j=>obtain⟨t',rfl⟩:=a;exact PySem.EqMixed.eq_bool_str (ar I q (by simp))
  |_=>exact absurd (show false=true from hs) Au
 |int i=>
  obtain⟨t,rfl⟩:=b;cases y with
  |non=>cases a;exact PySem.EqNone.eq_int_none (ar I q (by simp))
  |int j=>obtain⟨t',rfl⟩:=a;exact eq_int (ar I q xm)
  |str j=>obtain⟨t',rfl⟩:=a;exact PySem.EqMixed.eq_int_str (ar I q (by simp))
  |_=>exact absurd (show false=true from hs) Au
 |str i=>
  obtain⟨t,rfl⟩:=b;cases y with
  |non=>cases a;exact PySem.EqNone.eq_str_none (ar I q (by simp))
  |bl j=>cases a;exact PySem.EqMixed.eq_str_bool (ar I q (by simp))
  |int j=>obtain⟨t',rfl⟩:=a;exact PySem.EqMixed.eq_str_int (ar I q (by simp))
  |str j=>obtain⟨t',rfl⟩:=a;exact eq_str (ar I q xn)
  |_=>exact absurd (show false=true from hs) Au
 |byt i=>
  obtain⟨t,rfl⟩:=b;cases y with
  |byt j=>obtain⟨t',rfl⟩:=a;exact PySem.W.eq_bytes (ar I q xo)
  |_=>exact absurd (show false=true from hs) Au
 |_=>cases y<;>exact absurd (show false=true from hs) Au
def nA:bw X (Bg .NotEq) Da:=by
 intro aa s σ H x y v u Q I b a h;obtain⟨hs,q⟩:=h;cases x with
 |non=>
  cases b;cases y with
  |non=>cases a;exact PySem.EqNone.ne_none_none (ar I q (by simp))
  |bl j=>cases a;exact PySem.EqNone.ne_none_bool (ar I q (by simp))
  |int j=>obtain⟨t',rfl⟩:=a;exact PySem.EqNone.ne_none_int (ar I q (by simp))
  |str j=>obtain⟨t',rfl⟩:=a;exact PySem.EqNone.ne_none_str (ar I q (by simp))
  |_=>exact absurd (show false=true from hs) Au
 |bl i=>
  cases b;cases y with
  |non=>cases a;exact PySem.EqNone.ne_bool_none (ar I q (by simp))
  |bl j=>cases a;exact ne_bool (ar I q (congrArg not fA))
  |str j=>obtain⟨t',rfl⟩:=a;exact PySem.EqMixed.ne_bool_str (ar I q (by simp))
  |_=>exact absurd (show false=true from hs) Au
 |int i=>
  obtain⟨t,rfl⟩:=b;cases y with
  |non=>cases a;exact PySem.EqNone.ne_int_none (ar I q (by simp))
  |int j=>obtain⟨t',rfl⟩:=a;exact ne_int (ar I q (congrArg not xm))
  |str j=>obtain⟨t',rfl⟩:=a;exact PySem.EqMixed.ne_int_str (ar I q (by simp))
  |_=>exact absurd (show false=true from hs) Au
 |str i=>
  obtain⟨t,rfl⟩:=b;cases y with
  |non=>cases a;exact PySem.EqNone.ne_str_none (ar I q (by simp))
  |bl j=>cases a;exact PySem.EqMixed.ne_str_bool (ar I q (by simp))
  |int j=>obtain⟨t',rfl⟩:=a;exact PySem.EqMixed.ne_str_int (ar I q (by simp))
  |str j=>obtain⟨t',rfl⟩:=a;exact ne_str (ar I q (congrArg not xn))
  |_=>exact absurd (show false=true from hs) Au
 |byt i=>
  obtain⟨t,rfl⟩:=b;cases y with
  |byt j=>obtain⟨t',rfl⟩:=a;exact PySem.W.ne_bytes (ar I q (congrArg not xo))
  |_=>exact absurd (show false=true from hs) Au
 |_=>cases y<;>exact absurd (show false=true from hs) Au
def nD:bw X (Bg .Lt) (eu fun i j=>.bl (decide (i<j))):=gP fun _ _ _ _ _ _ _ q=>lt_int q
def nF:bw X (Bg .LtE) (eu fun i j=>.bl (decide (i<=j))):=gP fun _ _ _ _ _ _ _ q=>le_int q
def lf:bw X (Bg .Gt) (eu fun i j=>.bl (decide (j<i))):=gP fun _ _ _ _ _ _ _ q=>gt_int q
def Db:bw X (Bg .GtE) (eu fun i j=>.bl (decide (j<=i))):=gP fun _ _ _ _ _ _ _ q=>ge_int q
def al(b:Expr){op:CmpOp}(h:op≠.In:=by decide)(h2:op≠.NotIn:=by decide):behindInMarks op b=false:=by
 have e1:(op==CmpOp.In)=false:=by cases op<;>first|rfl|exact absurd rfl h
 have e2:(op==CmpOp.NotIn)=false:=by cases op<;>first|rfl|exact absurd rfl h2
 cases b<;>simp[behindInMarks,e1,e2]
def ro{op:CmpOp}{r:R2}(f:bw X (Bg op) r)(g:PE X a ta)(hb:PE X b tb)(hm:behindInMarks op b=false):PE X (.Compare a [op] [b] pos) (da r ta tb):=by
 intro aa s σ H Q I h;exact wpAny_Compare1 (jf g hb I h fun v u c x y H2 i d e q=>f aa c σ H2 x y v u Q i d e q) hm
def jr(t:TE):TT:=fun σ H Q=>t σ H fun x H'=>∃k,x=.bl k/\Q k H'
def zk{op:CmpOp}{r:R2}(q:bw X (Bg op) r)(w:PE X a ta)(hb:PE X b tb)(hm:behindInMarks op b=false):PT X (.Compare a [op] [b] pos) (jr (da r ta tb)):=by
 intro aa s σ H Q I h;refine wpAny_isTrue_Compare1 (aJ (w aa s σ H _ I h) fun v d ⟨x,H1,A,f,g⟩=>aJ (hb aa d σ H1 _ A g) fun u i ⟨y,H2,C,j,l⟩=>
  aJ (q aa i σ H2 x y v u _ C f j l) fun c E ⟨z,H3,D,o,k,e,p⟩=>?_) hm
 subst e;cases o;exact wpAny_truthy_bool ⟨H3,D,p⟩
def Dc(r b:R2)(ta tb tc:TE):TE:=fun σ H Q=>ta σ H fun x H1=>tb σ H1 fun y H2=>r x y H2 fun z H3=>∃k,z=.bl k/\
 (if k=true then tc σ H3 fun a c=>b y a c Q else Q (.bl false) H3)
def Dd{op f:CmpOp}{r l:R2}(S:bw X (Bg op) r)(g:bw X (Bg f) l)(T:PE X a ta)(hb:PE X b tb)(hc:PE X c tc)(hm:lastMarks [op,f] [b,c]=false:=by with_unfolding_all rfl):PT X (.Compare a [op,f] [b,c] pos) (jr (Dc r l ta tb tc)):=by
 intro aa s σ H Q I h;refine isTrue_chain (aJ (T aa s σ H _ I h) fun v p ⟨x,H1,U,q,w⟩=>test_link (aJ (hb aa p σ H1 _ U w) fun u A ⟨y,H2,W,i,C⟩=>
  aJ (S aa A σ H2 x y v u _ W q i C) fun d D ⟨z,H3,o,E,k,e,j⟩=>?_)) hm
 subst e;cases E;refine wpAny_truthy_bool ?_;cases k with
 |false=>
  obtain⟨k',e',P⟩:=j;cases e';exact ite_ff ⟨H3,o,P⟩
 |true=>
  refine ite_tt (test_last (aJ (hc aa D σ H3 _ o j) fun F G ⟨J,Y,I4,L,M⟩=>aJ (g aa G σ Y y J u F _ I4 i L M) fun d' s5 ⟨z2,H5,I5,N,k2,e2,O⟩=>?_));subst e2;cases N;exact wpAny_truthy_bool ⟨H5,I5,O⟩
def dj:(sizeLine:Nat)<2 ^ 63:=by rw[sizeLine_eq];decide
def vals1{x:V}{us:List Value}(r:Vals [x] us):∃u,us=[u]/\RelV x u:=by
 cases r with
 |cons r1 r2=>cases r2;exact⟨_,rfl,r1⟩
def vals2{x y:V}{us:List Value}(r:Vals [x,y] us):∃u a,us=[u,a]/\RelV x u/\RelV y a:=by
 cases r with
 |cons r1 r2=>
  cases r2 with
  |cons r3 r4=>cases r4;exact⟨_,_,rfl,r1,r3⟩
end
structure ObjM(h:Heap)(x dx C:Addr)(mA:Str->Option Value):Prop where
 obj:h.get? x=some (PySem.W.instObj C dx)
 ns:h.Ns1 dx mA
 ne:dx≠x
def De{h:Heap}{dx:Addr}{mA:Str->Option Value}(n:h.Ns1 dx mA):∃b,h.get? dx=some b/\∀name,PySem.W.lookIn name b=some (mA name):=by
 obtain⟨o,es,ep,c,hd,hk,_,hm⟩:=n;refine⟨o,c,fun name=>?_⟩;have e:=hm name;unfold nsFind findBy at e;rw[<-Array.find?_toList] at e;unfold PySem.W.lookIn;rw[hd];dsimp only;split
 ·rename_i y q
  rw[q] at e;exact congrArg some e
 ·rename_i q
  rw[q] at e;have a:es.toList.any (·.refKey)=false:=by
   rw[List.any_eq_false];intro y hy;obtain⟨z,t,d⟩:=hk y (Array.mem_toList_iff.mp hy);simp[DictEntry.refKey,d]
  have f:¬es.toList.any (·.refKey)=true:=by rw[a];exact Au
  rw[if_neg f];exact congrArg some e
def ObjM.look{h:Heap}{x dx C:Addr}{mA:Str->Option Value}(I:ObjM h x dx C mA):∃a,PySem.W.InstAt h x (PySem.W.instObj C dx) C (some a)/\∀name,PySem.W.lookIn name a=some (mA name):=
 let ⟨a,ho,hl⟩:=De I.ns
 ⟨a,⟨I.obj,rfl,rfl,ho⟩,hl⟩
def RelO.some_of{v:V}{o:Option Value}(r:RelO (some v) o):∃u,o=some u/\RelV v u:=by
 cases o with
 |none=>exact(show False from r).elim
 |some u=>exact⟨u,rfl,r⟩
section
variable{P:Program}{w:World}{H H':Hp}{h h':Heap}{a C dx:Addr}{fs rT:List (Str×V)}
def ew(b:HOk P w H h)(e:H a=some (.ins C dx fs)):∃mA,ObjM h a dx C mA/\(∀f,RelO (fs.lookup f) (mA f))/\PySem.Within mA (fs.map (·.1))/\fs.length<=1000/\H dx=some (.own a):=by
 obtain⟨d,z,ne,ob,mA,n,r,q⟩:=(show zC P w H h a (.ins C dx fs) from b a _ e);exact⟨mA,⟨ob,n,ne⟩,r,q,z,d⟩
end
structure Cls(K:Ae)(C:Addr):Prop where
 pg:PySem.W.plainGet K C Str.empty=true
 hd:PySem.W.hasDictIn K C=true
 po:PySem.W.plainOver K C=true
 sa:PySem.W.findIn K (.ref C) "__setattr__"=some (some (.builtin "object.__setattr__"))
def Cls.get{K:Ae}{C:Addr}(c:Cls K C)(f:Str):PySem.W.plainGet K C f=true:=c.pg
section
variable{X:Cx}{aa:Ψ}{σ:St}{H:Hp}{s:Shared}{A:Around}{E:Ω}{Q:Ω}{c:Value}{b:Bool}
inductive cp(K:Ae)(H:Hp):V->Value->Prop where
 |non:cp K H .non (.type "NoneType")
 |bl (x:Bool):cp K H (.bl x) (.type "bool")
 |int (i:Int):cp K H (.int i) (.type "int")
 |str (x:Str):cp K H (.str x) (.type "str")
 |flt (x:UInt64):cp K H (.flt x) (.type "float")
 |lst {a:Addr} {xs:List V} (e:H a=some (.lst xs)):cp K H (.ref a) (.type "list")
 |frz {a:Addr} {o:Obj} {xs:List V} (e:H a=some (.frz o (.lst xs))):cp K H (.ref a) (.type "list")
 |tup {a:Addr} {xs:List V} (e:H a=some (.tup xs)):cp K H (.ref a) (.type "tuple")
 |dK {a:Addr} {kvs:List (Key×V)} (e:H a=some (.dK kvs)):cp K H (.ref a) (.type "dict")
 |dT {a:Addr} {kvs:List (List Key×V)} (e:H a=some (.dT kvs)):cp K H (.ref a) (.type "dict")
 |ins {a C dx:Addr} {fs:List (Str×V)} (e:H a=some (.ins C dx fs)) (cl:Cls K C) (ha:PySem.W.findIn K (.ref C) "__class__"=some (some (.builtin "object.__class__")))
   (hn:PySem.W.specialIn K (.builtin "object.__class__") "__get__"=some (some (.builtin "getset_descriptor.__get__"))) (kt:PySem.W.takesIn K (.builtin "object.__class__")=some true)
   (hm:PySem.W.mroIn K C (.type "object")=some true):cp K H (.ref a) (.ref C)
def xp{x:V}{u t:Value}(I:Inv X aa σ H s)(d:RelV x u)(ty:cp X.K H x t)(e:Ba X.K t c=some b)(h:∀tk,Q (.bool b) {s with toks:=tk}):wpAny (model X.prog X.w) A (call (.builtin "isinstance") [u,c]) Q E s:=by
 cases ty with
 |non=>cases(show u=Value.none from d);exact PySem.W.kia_one PySem.W.kitx_none I.kIn True.intro e (fun z=>nomatch z) h
 |bl y=>cases(show u=Value.bool y from d);exact PySem.W.kia_one PySem.W.kitx_bool I.kIn True.intro e (fun z=>nomatch z) h
 |int i=>obtain⟨t,q⟩:=(show ∃t,u=Value.int i t from d);cases q;exact PySem.W.kia_one PySem.W.kitx_int I.kIn True.intro e (fun z=>nomatch z) h
 |str y=>obtain⟨t,q⟩:=(show ∃t,u=Value.str y t from d);cases q;exact PySem.W.kia_one PySem.W.kitx_str I.kIn True.intro e (fun z=>nomatch z) h
 |flt y=>obtain⟨t,q⟩:=(show ∃t,u=Value.float y t from d);cases q;exact PySem.W.kia_one PySem.W.kitx_float I.kIn True.intro e (fun z=>nomatch z) h
 |@lst a xs ea=>
  cases(show u=Value.ref a from d);obtain⟨_,_,n,_,h1⟩:=(show zC X.prog X.w H s.heap a (.lst xs) from I.hok a _ ea);exact PySem.W.kia_one PySem.W.kitx_list I.kIn ⟨_,h1,rfl⟩ e (fun z=>nomatch z) h
 |@frz a ob xs ea=>
  cases(show u=Value.ref a from d);obtain⟨_,_,_,n,_,h1⟩:=(show zC X.prog X.w H s.heap a (.frz ob (.lst xs)) from I.hok a _ ea);exact PySem.W.kia_one PySem.W.kitx_list I.kIn ⟨_,h1,rfl⟩ e (fun z=>nomatch z) h
 |@tup a xs ea=>
  cases(show u=Value.ref a from d);obtain⟨_,_,_,p⟩:=(show zC X.prog X.w H s.heap a (.tup xs) from I.hok a _ ea);obtain⟨o,h1,h2,_⟩:=p;exact PySem.W.kia_one PySem.W.kitx_tuple I.kIn ⟨o,h1,h2⟩ e (fun z=>nomatch z) h
 |@dK a kvs ea=>
  cases(show u=Value.ref a from d);obtain⟨_,_,vs,_,p⟩:=(show zC X.prog X.w H s.heap a (.dK kvs) from I.hok a _ ea);obtain⟨o,es,ep,h1,h2,_⟩:=p;exact PySem.W.kia_one PySem.W.kitx_dict I.kIn ⟨o,h1,h2.1⟩ e (fun z=>nomatch z) h
 |@dT a kvs ea=>
  cases(show u=Value.ref a from d);obtain⟨_,_,xs,_,o,es,ep,h1,h2,_⟩:=(show zC X.prog X.w H s.heap a (.dT kvs) from I.hok a _ ea);exact PySem.W.kia_one PySem.W.kitx_dict I.kIn ⟨o,h1,h2.1⟩ e (fun z=>nomatch z) h
 |@ins a C dx fs ea cl ha hn kt hm=>
  cases(show u=Value.ref a from d);obtain⟨mA,O,_⟩:=ew I.hok ea;obtain⟨f,J,_⟩:=O.look;exact PySem.W.kia_one (PySem.W.kitx_own (cl.get _) cl.hd ha hn kt hm) I.kIn J e (fun z=>nomatch z) h
end
structure Room(k:Nat)(A:Around):Prop where
 hd:A.handled=none
 dp:A.depth+3*k+5<recursionLimit
 un:A.units+16*k+200<cLine
def Room.mono{j k:Nat}{A:Around}(r:Room k A)(h:j<=k):Room j A:=⟨r.hd,by have:=r.dp;omega,by have:=r.un;omega⟩
def Room.deeper{k:Nat}{A:Around}(r:Room (k+1) A)(env:Env):Room k (A.deeper env):=
 ⟨r.hd,by have:=r.dp;show A.depth+1+3*k+5<_;omega,by have:=r.un;show A.units+3+16*k+200<_;omega⟩
def Room.in1{k:Nat}{A:Around}(r:Room (k+1) A):Room k A.in1:=
 ⟨r.hd,by have:=r.dp;show A.depth+3*k+5<_;omega,by have:=r.un;show A.units+1+16*k+200<_;omega⟩
def Room.depth{k:Nat}{A:Around}(r:Room k A):A.depth<recursionLimit:=by have:=r.dp;omega
def Room.units{k:Nat}{A:Around}(r:Room k A):A.units+64<cLine:=by have:=r.un;omega
def bc:TA:=fun _ H Q=>Q [] H
def ci(ta:TE)(a:TA):TA:=fun σ H Q=>ta σ H fun x H1=>a σ H1 fun xs H2=>Q (x::xs) H2
section
variable{X:Cx}{e:Expr}{es:List Expr}{te:TE}{t:TA}{pos:Pos}
def ai:PA X [] bc:=fun _ _ _ _ H Q I h=>Calls.spliced_nil ⟨[],H,I,.nil,h⟩
def ac(g:PE X e te)(hr:PA X es t)(hs:starEach (e::es) X.env=(false,eval e X.env)::starEach es X.env:=by rfl):PA X (e::es) (ci te t):=by
 intro pos aa s σ H Q I h;rw[hs];show wpAny _ _ (spliced ((false,eval e X.env)::backTo pos (starEach es X.env))) _ _ s;refine Calls.spliced_cons (aJ (g aa s σ H _ I h) fun u a ⟨x,H1,i,b,c⟩=>?_);exact aJ (hr pos aa a σ H1 _ i c) fun us l ⟨xs,H2,j,d,f⟩=>⟨x::xs,H2,j,.cons b d,f⟩
def dk(t:TA):TE:=fun σ H Q=>t σ H fun xs H1=>xs.length<=sizeLine/\∀p,H1 p=none->Q (.ref p) (upd H1 p (.tup xs))
def rq(t:TA):TE:=fun σ H Q=>t σ H fun xs H1=>xs.length<=sizeLine/\∀p,H1 p=none->Q (.ref p) (upd H1 p (.lst xs))
def fB{x1}(h:PA X es t):PE X (.Tuple es x1 pos) (dk t):=by
 intro aa s σ H Q I hq;refine wpAny_Tuple_spliced (aJ (h pos aa s σ H _ I hq) fun us a ⟨xs,H1,I1,r,z,q⟩=>⟨by rw[<-r.length];exact z,?_⟩);have hf:H1 a⁻¹=none:=I1.hok.fresh (Ah _);refine⟨.ref a⁻¹,upd H1 a⁻¹ (.tup xs),I1.laid (t':=a.toks) (fun b u e=>Ad _ e) (Ah _) ?_,rfl,q _ hf⟩;exact⟨z,us,r,⟨_,Ar _ rfl,rfl,_,rfl⟩⟩
def zJ(h:PA X es t):PE X (.List es pos) (rq t):=by
 intro aa s σ H Q I hq;refine wpAny_List_spliced (aJ (h pos aa s σ H _ I hq) fun us a ⟨xs,H1,I1,r,z,q⟩=>⟨by rw[<-r.length];exact z,?_⟩);have hf:H1 a⁻¹=none:=I1.hok.fresh (Ah _);refine⟨.ref a⁻¹,upd H1 a⁻¹ (.lst xs),I1.laid (t':=a.toks) (fun b u e=>Ad _ e) (Ah _) ?_,rfl,q _ hf⟩;exact⟨z,us,0,r,Ar _ rfl⟩
end
abbrev Sp:=List V->Hp->VK->XK->Prop
abbrev dL:=List Env->Hp->Shared->XK->Ω
structure Env0(P:Program)(w:World)(K:Ae)(mg:Str->Option Value)(base:Heap)(A:Around)(outer:List Env)(s:Shared)(H:Hp):Prop where
 frames:A.frames=some outer
 mod:Mod K mg base
 bs:∀b o,base.get? b=some o->s.heap.get? b=some o/\H b=none
 bsz:base.objs.size<=s⁻¹
 funs:s.heap.FunFrames base outer
 frf:∀b∈frs outer,H b=none
 hok:HOk P w H s.heap
 bare:AllBare s.gens
def CE(outer:List Env)(P:Program)(w:World)(H:Hp)(s:Shared)(Q:VK)(u:Value)(s':Shared):Prop:=
 ∃v H',s'.os=s.os/\AllBare s'.gens/\Un (frs outer) [] H H' s.heap s'.heap/\HOk P w H' s'.heap/\RelV v u/\Q v H'
def CR(CX:dL)(outer:List Env)(P:Program)(w:World)(H:Hp)(s:Shared)(Q:VK)(E:XK)(r:Result)(s':Shared):Prop:=
 match r with
 |.ok (.ret u)=>CE outer P w H s Q u s'
 |.ok _=>False
 |.error e=>CX outer H s E e s'
structure FnOk(P:Program)(w:World)(K:Ae)(mg:Str->Option Value)(base:Heap)(CX:dL)(k:Nat)(f:Addr)(fd:FuncData)(ps:List Str)(sp:Sp):Prop where
 len:∀vs H Q E,sp vs H Q E->vs.length=ps.length
 run:∀(A:Around)(outer:List Env)(s:Shared)(H:Hp)(args:Args)(us:List Value)(vs:List V)(Q:VK)(E:XK),Room k A->Env0 P w K mg base A outer s H->BindsTo s fd args (ps.zip us)->Vals vs us->sp vs H Q E->
  codeAny (model P w) A (.call (.ref f) args) (CR CX outer P w H s Q E) s
def Env0.in1{P:Program}{w:World}{K:Ae}{mg:Str->Option Value}{base:Heap}{A:Around}{outer:List Env}{s:Shared}{H:Hp}(e:Env0 P w K mg base A outer s H):Env0 P w K mg base A.in1 outer s H:=⟨e.frames,e.mod,e.bs,e.bsz,e.funs,e.frf,e.hok,e.bare⟩
section
variable{X:Cx}{aa:Ψ}{σ:St}{H:Hp}{s s':Shared}
def Inv.env0(I:Inv X aa σ H s):Env0 X.prog X.w X.K X.mg X.base X.A X.stack s H:=
 ⟨I.ok.frames,I.ok.mod,I.bs,AF I.ok.bsz I.sz,I.stack,I.stkFree,I.hok,I.bare⟩
def Inv.after{Q:VK}{u:Value}(I:Inv X aa σ H s)(h:CE X.stack X.prog X.w H s Q u s'):EP X aa σ Q u s':=by
 obtain⟨v,H',os,a,un,c,r,q⟩:=h;obtain⟨e,g,d,t,f⟩:=s';obtain rfl:f=s.os:=os;exact⟨v,H',I.call (h':=e) (g':=g) (d':=d) (t':=t) (ch:=[]) un c a (fun b z=>absurd z (by simp)),r,q⟩
end
def jY(sp:Sp)(dI:List V)(E:XK)(t:TA):TE:=fun σ H Q=>t σ H fun vs H1=>sp (vs++dI) H1 Q E
def Binds(K:Ae)(fd:FuncData)(ps:List Str)(ds:List Value):Prop:=
 ∀(s:Shared)(us:List Value),K.In s.heap->(us++ds).length=ps.length->BindsTo s fd ⟨us,[]⟩ (ps.zip (us++ds))
def Binds.all{K:Ae}{fd:FuncData}{ps:List Str}(h:∀us:List Value,us.length=ps.length->bindArgs fd ⟨us,[]⟩=pure (ps.zip us)):Binds K fd ps []:=fun s us _ a=>by
 rw[List.append_nil] at a ⊢;exact .of_eq (h us a)
def cL(CX:dL)(X:Cx)(E:XK):Prop:=∀(aa:Ψ)(σ:St)(H:Hp)(s:Shared)(e:Value)(s':Shared),Inv X aa σ H s->CX X.stack H s E e s'->X.xe e s'
section
variable{X:Cx}{CX:dL}{k:Nat}{f C:Addr}{fd:FuncData}{ps:List Str}{sp:Sp}{dI:List V}{ds:List Value}{E:XK}{x m:Str}{p pos aU:Pos}{e o:Expr}{es:List Expr}{ta:TE}{t:TA}
def Dg{aa:Ψ}{σ:St}{H:Hp}{s:Shared}{Q:VK}{us:List Value}{vs:List V}(F:FnOk X.prog X.w X.K X.mg X.base CX k f fd ps sp)(hr:Room k X.A)(hb:Binds X.K fd ps ds)(hd:Vals dI ds)(hx:cL CX X E)(I:Inv X aa σ H s)(r:Vals vs us)(h:sp (vs++dI) H Q E):wpAny (model X.prog X.w) X.A (call (.ref f) us) (EP X aa σ Q) X.xe s:=by
 have a:Vals (vs++dI) (us++ds):=r.append hd;have b:(us++ds).length=ps.length:=by rw[<-a.length];exact F.len _ _ _ _ h
 refine wpAny_call (Bc (F.run X.A X.stack s H ⟨us,[]⟩ (us++ds) (vs++dI) Q E hr I.env0 (hb s us I.kIn b) a h) fun r s' hq=>?_);cases r with
 |error e=>exact hx aa σ H s e s' I hq
 |ok fl=>
  cases fl with
  |ret u=>exact I.after hq
  |next=>exact Be hq
  |brk=>exact Be hq
  |cont=>exact Be hq
def zK(F:FnOk X.prog X.w X.K X.mg X.base CX k f fd ps sp)(hr:Room k X.A)(b:Gl X x)(hm:X.mg x=some (.ref f))(hk:PySem.W.keepIn X.K (.ref f)=true)(hb:Binds X.K fd ps ds)(hd:Vals dI ds)(hx:cL CX X E)(c:PA X (e::es) t)(d:(x==("__debug__":Str))=false:=by decide)(he:starEach (e::es) X.env=(false,eval e X.env)::starEach es X.env:=by rfl)(a:(backTo pos (starEach es X.env)).any (·.1)=false:=by rfl):PE X (.Call (.Name x p) (e::es) [] pos) (jY sp dI E t):=by
 intro aa s σ H Q I h;refine wpAny_Call_Name_kw (kQ I b hm ?_ d);refine PySem.W.callWith_K (h₀:=X.base) I.ok.mod.kin hk (aJ (c pos aa s σ H _ I h) fun us g ⟨vs,H1,I1,r,q⟩=>⟨I1.kIn,?_⟩) he a;exact Dg F hr hb hd hx I1 r q
structure Mk(K:Ae)(C f:Addr):Prop where
 makes:PySem.W.makesIn K C=true
 init:PySem.W.findIn K (.ref C) "__init__"=some (some (.ref f))
 fn:PySem.W.isFn K (.ref f)=true
 kp:PySem.W.keepIn K (.ref C)=true
end
structure zw(N P:List Str)(sc:Scope):Prop where
 kind:sc.kind=.function
 co:sc.isCoroutine=false
 gen:sc.isGenerator=false
 nd:N.Nodup
 pre:N.take P.length=P
 par:∀x∈P,sc.names.lookup x=some .local\/sc.names.lookup x=some .cell
 nofree:∀y∈sc.names,y.2≠.free
def xq{kindOf:Str->Option NameKind}{x:Str}:∀{binds:List (Str×Value)}{m:Str->Option Value},(∀v,(x,v)∉binds)->bindL kindOf binds m x=m x
 |[],_,_=>rfl
 |(n,v)::r,m,h=>by
  unfold bindL;rw[xq fun w hw=>h w (Ay _ hw)];split
  ·have:x≠n:=by rintro rfl;exact h v AB
   simp[this]
  ·rfl
def xr{kindOf:Str->Option NameKind}{x:Str}:∀{binds:List (Str×Value)}{m:Str->Option Value},(∀v,(x,v)∉binds)->bindC kindOf binds m x=m x
 |[],_,_=>rfl
 |(n,v)::r,m,h=>by
  unfold bindC;rw[xr fun w hw=>h w (Ay _ hw)];split
  ·rfl
  ·have:x≠n:=by rintro rfl;exact h v AB
   simp[this]
def xt{kindOf:Str->Option NameKind}{x:Str}{v:Value}:∀{P:List Str}{vs:List Value}{i:Nat}{m:Str->Option Value},P.Nodup->P[i]?=some x->vs[i]?=some v->kindOf x=some .local->
  bindL kindOf (P.zip vs) m x=some v
 |[],_,_,_,_,h,_,_=>by simp at h
 |_::_,[],_,_,_,_,h,_=>by simp at h
 |p::P,w::vs,0,m,nd,h1,h2,hk=>by
  simp at h1 h2;subst h1;subst h2;show bindL kindOf ((p,w)::P.zip vs) m p=_;unfold bindL;rw[xq fun v a=>(List.nodup_cons.mp nd).1 (List.of_mem_zip a).1,if_pos hk];simp
 |p::P,w::vs,i+1,m,nd,h1,h2,hk=>by
  show bindL kindOf ((p,w)::P.zip vs) m x=_;unfold bindL;exact xt (i:=i) (List.nodup_cons.mp nd).2 (by simpa using h1) (by simpa using h2) hk
def xu{kindOf:Str->Option NameKind}{x:Str}{v:Value}:∀{P:List Str}{vs:List Value}{i:Nat}{m:Str->Option Value},P.Nodup->P[i]?=some x->vs[i]?=some v->kindOf x≠some .local->
  bindC kindOf (P.zip vs) m x=some v
 |[],_,_,_,_,h,_,_=>by simp at h
 |_::_,[],_,_,_,_,h,_=>by simp at h
 |p::P,w::vs,0,m,nd,h1,h2,hk=>by
  simp at h1 h2;subst h1;subst h2;show bindC kindOf ((p,w)::P.zip vs) m p=_;unfold bindC;rw[xr fun v a=>(List.nodup_cons.mp nd).1 (List.of_mem_zip a).1,if_neg hk];simp
 |p::P,w::vs,i+1,m,nd,h1,h2,hk=>by
  show bindC kindOf ((p,w)::P.zip vs) m x=_;unfold bindC;exact xu (i:=i) (List.nodup_cons.mp nd).2 (by simpa using h1) (by simpa using h2) hk
def start(N:List Str)(vs:List V):St:=vs.map some++List.replicate (N.length-vs.length) none
def a0(CX:dL)(P:Program)(w:World)(K:Ae)(mg:Str->Option Value)(base:Heap)(N:List Str)(a:Str)(scope:Scope)(f:Addr)(b:Value)(A:Around)(outer:List Env)(s:Shared)(H:Hp)(E:XK):Cx where
 prog:=P
 w:=w
 K:=K
 mg:=mg
 base:=base
 A:=A.deeper (envOfC a scope s⁻¹ f b)
 N:=N
 s₀:=s
 H₀:=H
 env:=envOfC a scope s⁻¹ f b
 outer:=outer
 stack:=envOfC a scope s⁻¹ f b::outer
 ex:=[]
 calm:=true
 fn:=fun _=>true
 pn:=[]
 xe:=fun e s'=>wpAny (model P w) (A.deeper (envOfC a scope s⁻¹ f b)) (leaving (envOfC a scope s⁻¹ f b) e) (fun _ c=>CX outer H s E e c) (fun e' c=>CX outer H s E e' c) s'
def xx{sc:Scope}{n:Nat}{x:Str}(h:sc.names.lookup x=some .cell):∃c,(cellsFrom n sc.names []).lookup x=some c:=by
 have q:=PySem.W.cellsFrom_some sc.names n [] (.inl h);exact Option.isSome_iff_exists.mp q
def xy{CX:dL}{P:Program}{w:World}{K:Ae}{mg:Str->Option Value}{base:Heap}{N ps:List Str}{l:Str}{scope:Scope}{f:Addr}{o:Value}{A:Around}{outer:List Env}{s C:Shared}{H:Hp}{E:XK}{us:List Value}{vs:List V}(S:zw N ps scope)(hd:A.handled=none)(d:Env0 P w K mg base A outer s H)(J:vs.length=ps.length)(r:Vals vs us)(x:InCallC s s⁻¹ (bindL (envOfC l scope s⁻¹ f o).kindOf (ps.zip us) fun _=>none) (cellsFrom (s⁻¹+1) scope.names []) (bindC (envOfC l scope s⁻¹ f o).kindOf (ps.zip us) fun _=>none) C):Inv (a0 CX P w K mg base N l scope f o A outer s H E) [] (start N vs) H C:=by
 have F:ps.length<=N.length:=by have:=congrArg List.length S.pre;rw[AM] at this;omega
 obtain⟨h1,tk,rfl,hk⟩:=x.done;have g:∀b:Addr,b∉(a0 CX P w K mg base N l scope f o A outer s H E).ex:=fun b z=>absurd (show b∈([]:List Addr) from z) (by simp);refine⟨⟨d.mod,S.kind,rfl,rfl,Ah _,fun y z c h1 h2=>?_,fun y hy=>?_,fun y c _ h=>?_,fun _=>hd,Around.frames_deeper d.frames,.inr ⟨rfl,rfl⟩,fun b z=>absurd z (g b),d.bs,d.bsz,fun b _ _=>g b,fun b z=>absurd z (g b),d.funs,d.frf⟩,
  rfl,d.bare,Un.kept hk,⟨_,x.toInCall.ns,fun i y v h1 h2 I=>?_⟩,fun y c h=>⟨_,x.cell y c h⟩,d.hok.fresh (Ah _),fun y c h=>?_,fun p hp=>absurd (show p∈([]:Ψ) from hp) (by simp),d.hok.kept hk,?_⟩
 ·exact name_of_addr x.apart (PySem.mem_of_lookup h1) (PySem.mem_of_lookup h2)
 ·have hy:scope.names.lookup y=some .cell\/scope.names.lookup y=some .free:=hy
  rcases hy with hy|hy
  ·exact xx hy
  ·exact absurd rfl (S.nofree _ (PySem.mem_of_lookup hy))
 ·exact Nat.le_of_lt (x.above y c (PySem.mem_of_lookup h))
 ·have hi:i<vs.length:=by
   unfold start at h2
   by_cases hi:i<vs.length
   ·exact hi
   ·rw[List.getElem?_append_right (by simpa using hi)] at h2
    rw[List.getElem?_replicate] at h2;split at h2<;>cases h2
  have G:vs[i]?=some v:=by
   unfold start at h2;rw[List.getElem?_append_left (by simpa using hi),Ak] at h2;cases e:vs[i]? with
   |none=>rw[e] at h2;cases h2
   |some a=>rw[e] at h2;cases h2;rfl
  obtain⟨u,hu,D⟩:=r.get G;have hp:ps[i]?=some y:=by
   rw[<-S.pre,List.getElem?_take_of_lt ω];exact h1
  have j:ps.Nodup:=by rw[<-S.pre];exact S.nd.sublist (List.take_sublist _ _)
  refine⟨u,D,?_⟩;rcases S.par y (An hp) with k|k
  ·exact .inl ⟨k,xt j hp hu k⟩
  ·obtain⟨c,e⟩:=xx (n:=s⁻¹+1) k
   refine .inr ⟨.inl k,c,e,?_⟩;have q:=x.cell y c e;rw[xu j hp hu (by show scope.names.lookup y≠_;rw[k];decide)] at q;exact q
 ·exact d.hok.fresh (Nat.le_of_lt (x.above y c (PySem.mem_of_lookup h)))
 ·unfold start
  show _=N.length;rw[AC,Ab,List.length_replicate];omega
def rx{CX:dL}{P:Program}{w:World}{K:Ae}{mg:Str->Option Value}{base:Heap}{k:Nat}{f:Addr}{name a:Str}{i:Arguments}{body:List Stmt}{scope:Scope}{j kV l p c ct Y:Value}{z od:Option Addr}{G:Array (Option Value)}{N ps:List Str}{sp:Sp}(lk:K.lookup f=some ⟨Y,od,.func (PySem.W.fnOf name a i body scope j kV l p z c ct),G⟩)(L:PySem.W.codeIn K c a=true)(S:zw N ps scope)(len:∀vs H Q E,sp vs H Q E->vs.length=ps.length)(aL:∀(A:Around)(outer:List Env)(s:Shared)(H:Hp)(vs:List V)(Q:VK)(E:XK),Room k (A.deeper (envOfC a scope s⁻¹ f c))->sp vs H Q E->
   ∃t,PSs (a0 CX P w K mg base N a scope f c A outer s H E) body t/\t {nx:=fun _ H'=>Q .non H',rt:=Q} (start N vs) H):
  FnOk P w K mg base CX (k+1) f (PySem.W.fnOf name a i body scope j kV l p z c ct) ps sp:=by
 refine⟨len,fun A outer s H args us vs Q E hr d hb r C=>?_⟩;have T:=len _ _ _ _ C;have F:K.In s.heap:=d.mod.kin.keeps fun b o e=>(d.bs b o e).1;have U:s.heap.NoLimit:=d.mod.nolimit.keeps fun b o e=>(d.bs b o e).1;have X:∀y∈ps.zip us,scope.names.lookup y.1=some .local\/(scope.names.lookup y.1=some .cell/\((cellsFrom (s⁻¹+1) scope.names []).lookup y.1).isSome=true):=fun⟨n,v⟩ hy=>by
  rcases S.par n (List.of_mem_zip hy).1 with q|q
  ·exact .inl q
  ·exact .inr ⟨q,PySem.W.cellsFrom_some _ _ _ (.inl q)⟩
 refine codeAny_call_function hr.depth (F _ _ lk) rfl S.co S.gen rfl (PySem.W.codeRec_of F L) (hb _ _ _ _ ?_);refine wpAny_newFunctionEnv_cells S.kind X fun env he D x=>?_;subst he;refine⟨U.keeps x.toInCall.keep,codeAny_func ?_⟩;obtain⟨t,O,hq⟩:=aL A outer s H vs Q E (hr.deeper _) C;have I:Inv (a0 CX P w K mg base N a scope f c A outer s H E) [] (start N vs) H D:=xy S hr.hd d T r x;refine A9 (O [] D (start N vs) H _ I hq) (fun M s' hs=>?_) fun e s' hs=>hs;have fin:∀{g:St}{H':Hp}{v:V}{u:Value},Inv (a0 CX P w K mg base N a scope f c A outer s H E) [] g H' s'->RelV v u->Q v H'->CE outer P w H s Q u s':=
  fun{g H' v u} J h q=>⟨v,H',J.os,J.bare,J.base,J.hok,h,q⟩
 cases M with
 |ret u=>
  obtain⟨v,g,H',J,h,q⟩:=hs;exact fin J h q
 |next=>
  obtain⟨g,H',J,q⟩:=hs;exact fin (v:=V.non) (u:=Value.none) J rfl q
 |brk=>
  obtain⟨_,_,_,q⟩:=hs;exact Be q
 |cont=>
  obtain⟨_,_,_,q⟩:=hs;exact Be q
section
variable{X:Cx}{x:Str}{p pos:Pos}{e:Expr}{es:List Expr}{t:TA}{id T:String}{r:List V->Hp->VK->Prop}
def gQ(r:List V->Hp->VK->Prop)(t:TA):TE:=fun σ H Q=>t σ H fun vs H1=>r vs H1 Q
def zi(hc:bU X (.builtin id) r)(f:Gl X x)(hm:X.mg x=none)(g:A5 x=some (.builtin id))(i:PA X (e::es) t)(j:x≠"__name__":=by decide)(l:(x==("__debug__":Str))=false:=by decide)
  (he:starEach (e::es) X.env=(false,eval e X.env)::starEach es X.env:=by rfl) (a:(backTo pos (starEach es X.env)).any (·.1)=false:=by rfl):PE X (.Call (.Name x p) (e::es) [] pos) (gQ r t):=by
 intro aa s σ H Q I h;refine wpAny_Call_Name_kw (i_ I f hm g ?_ j l);exact PyProof.Rows.callWith_builtin1 (aJ (i pos aa s σ H _ I h) fun us b ⟨vs,H1,o,c,d⟩=>hc aa b σ H1 vs us Q o c d) he a
def zq(hc:bU X (.type T) r)(f:Gl X x)(hm:X.mg x=none)(g:A5 x=some (.type T))(i:PA X (e::es) t)(j:x≠"__name__":=by decide)(l:(x==("__debug__":Str))=false:=by decide)
  (he:starEach (e::es) X.env=(false,eval e X.env)::starEach es X.env:=by rfl) (a:(backTo pos (starEach es X.env)).any (·.1)=false:=by rfl):PE X (.Call (.Name x p) (e::es) [] pos) (gQ r t):=by
 intro aa s σ H Q I h;refine wpAny_Call_Name_kw (i_ I f hm g ?_ j l);exact PyProof.Rows.callWith_type1 (aJ (i pos aa s σ H _ I h) fun us b ⟨vs,H1,o,c,d⟩=>hc aa b σ H1 vs us Q o c d) he a
end
end L2
namespace HT
open PySem PyProof.Rows
def lexLt:List Int->List Int->Bool
 |[],[]=>false
 |[],_::_=>true
 |_::_,[]=>false
 |x::xs,y::ys=>if x=y then lexLt xs ys else decide (x<y)
def zv(x y:Int)(xs ys:List Int):lexLt (x::xs) (y::ys)=if x=y then lexLt xs ys else decide (x<y):=rfl
def xz:lexLt [] []=false:=rfl
def zW(y:Int)(ys:List Int):lexLt [] (y::ys)=true:=rfl
def xB(x:Int)(xs:List Int):lexLt (x::xs) []=false:=rfl
def Dh(A:Around)(s:Shared)(a:Int)(t:Tok)(c:Int)(u:Tok):∃e,SeqAt.EqAt A s (.int a t) (.int c u) e/\(e=true↔a=c):=
 ⟨(a==c),SeqAt.EqAt.int_int a t c u,by simp⟩
def Di(A:Around)(s:Shared)(a:Int)(t:Tok)(c:Int)(u:Tok)(prog:Program)(w:World)(E:Ω)(Q:Ω)(h:Q (.bool (decide (a<c))) s):wpAny (model prog w) A (richCompare .Lt (.int a t) (.int c u)) Q E s:=
 (PyProof.Rows.lt_int h:wpAny (model prog w) A (Bg .Lt (.int a t) (.int c u)) Q E s)
section
open PySem.SeqAt
open PySem.AutoSeq1 (wpAny_loadPart')
open PySem.MeetsSeq PySem.MeetsSeq2 PySem.MeetsSeq3
def Dj(l b:Addr)(p r:Array Value)(n n2:Nat)(dd J:Option Addr)(L M:Array (Option Value))(ns C:List Int)(hi:IntsAre p.toList ns)(G:IntsAre r.toList C):Meets (Builtin.«tuple.__lt__» ⟨[.ref l,.ref b],[]⟩)
   (fun _ R s=>s.heap.get? l=some {cls:=.type "tuple",dict:=dd,data:=.seq p n,slots:=L}/\s.heap.get? b=some {cls:=.type "tuple",dict:=J,data:=.seq r n2,slots:=M}/\
    R (.ok (.ret (.bool (lexLt ns C)))) s):=
 .of_wp fun prog w A R s h=>by
  obtain⟨hp,g,d,tk,os⟩:=s;obtain⟨H,hb,h⟩:=h;have f2:=AutoSeq1.sub_tuple_tuple;have P:p.size=ns.length:=by rw[<-hi.length];simp
  have z2:r.size=C.length:=by rw[<-G.length];simp
  wp_walk using wpAny_loadPart' H,wpAny_loadPart' hb,wpAny_forIn_list _ (fun rest b s'=>b.1=none/\s'=⟨hp,g,d,tk,os⟩/\∃(vs v:List Value)(j o:List Int),rest=vs.zip v/\
   IntsAre vs j/\IntsAre v o/\j.length+r.size=o.length+p.size/\R (.ok (.ret (.bool (lexLt j o)))) ⟨hp,g,d,tk,os⟩) _
  case turn=>
   rintro⟨y,x⟩ rest b s' ⟨i,rfl,vs,v,j,o,hz,D,z,f,hR⟩;cases D with
   |nil=>rw[List.zip_nil_left] at hz;cases hz
   |cons a t hvi'=>
    cases z with
    |nil=>rw[List.zip_nil_right] at hz;cases hz
    |cons c u hwi'=>
     rw[List.zip_cons_cons] at hz;injection hz with hyx bz
     injection hyx with hy hx
     subst hy hx;rw[zv] at hR;simp only[Aw] at f;obtain⟨e,he,E⟩:=Dh A.in1 ⟨hp,g,d,tk,os⟩ a t c u;refine Aa (he prog w _ _ ?_);cases e with
     |true=>
      rw[if_pos (E.mp rfl)] at hR
      wp_walk
      exact⟨rfl,rfl,_,_,_,_,bz,hvi',hwi',ω,hR⟩
     |false=>
      rw[if_neg (fun q=>absurd (E.mpr q) Au)] at hR;have I:=Di A.in1 ⟨hp,g,d,tk,os⟩ a t c u prog w
      wp_walk using I
      exact⟨_,rfl,by simpa using hR⟩
  case fin=>
   rintro⟨N,O⟩ s' ⟨i,rfl,vs,v,j,o,hz,D,z,f,hR⟩;simp only at i;subst i;have F:lexLt j o=decide (p.size<r.size):=by
    cases D with
    |nil=>
     cases z with
     |nil=>
      simp only[List.length_nil] at f;rw[xz];exact(decide_eq_false ω).symm
     |cons c u hw=>
      simp only[List.length_nil,Aw] at f;rw[zW];exact(decide_eq_true ω).symm
    |cons a t F=>
     cases z with
     |nil=>
      simp only[List.length_nil,Aw] at f;rw[xB];exact(decide_eq_false ω).symm
     |cons c u hw=>
      rw[List.zip_cons_cons] at hz;cases hz
   rw[F] at hR
   wp_walk
   exact⟨_,rfl,by simpa[Builtin.Tuple.tupleCompareSizes] using hR⟩
  case h=>
   exact⟨rfl,rfl,p.toList,r.toList,ns,C,rfl,hi,G,ω,h⟩
end
section
variable{prog:Program}{w:World}{A:Around}{E:Ω}{s:Shared}
def xC{l b:Addr}{c d:Array Value}{ns a:List Int}{Q:Ω}(q:IsTup s.heap l c)(hb:IsTup s.heap b d)(hi:IntsAre c.toList ns)(r:IntsAre d.toList a)(hu:A.units<cLine)(h:Q (.bool (lexLt ns a)) s):wpAny (model prog w) A (Bg .Lt (.ref l) (.ref b)) Q E s:=by
 obtain⟨⟨cls,dd,data,j⟩,e,hc,n,hd⟩:=id q;obtain⟨⟨u,o,data2,p⟩,f,g,n2,i⟩:=id hb;simp only at hc hd g i;subst hc hd g i;exact richCompare_meets_room (op:=.Lt) ⟨_,e,rfl⟩ ⟨_,f,rfl⟩ PySem.F.slot_tuple_lt PySem.F.entry_tuple_lt (PySem.F.args_tuple_lt_2 _ _) (Dj l b c d n n2 dd o j p ns a hi r)
  ⟨e,f,show Value.bool (lexLt ns a)≠Value.notImplemented/\Q (.bool (lexLt ns a)) s from⟨(fun x=>nomatch x),h⟩⟩ hu
def Dl{t b:Addr}{vs a:List Value}{Q:Ω}(o:IsTup s.heap t vs.toArray)(hb:IsTup s.heap b a.toArray)(l:vs≠[])(h1:a=[]->Q (.ref t) s)(h2:a≠[]->Q (.ref s⁻¹) {s with heap:=s.heap.push {cls:=.type "tuple",data:=.seq (vs++a).toArray}})(hsz:vs.length+a.length<=sizeLine):wpAny (model prog w) A (binaryOp .Add (.ref t) (.ref b)) Q E s:=by
 obtain⟨⟨cls,dd,data,f⟩,c,hc,n,hd⟩:=id o;obtain⟨⟨p,g,data2,h⟩,d,i,n2,j⟩:=id hb;simp only at hc hd i j;subst hc hd i j;have e:vs.toArray++a.toArray=(vs++a).toArray:=by simp
 by_cases hw:a=[]
 ·exact concat_meets ⟨_,c,rfl⟩ ⟨_,d,rfl⟩ noFill_tuple_add seq_tuple_add PySem.F.slot_tuple_add PySem.F.entry_tuple_add (PySem.F.args_tuple_add_2 _ _)
   (tuple_addW1 t b vs.toArray a.toArray n n2 dd g f h (by simpa using l) (by simp[hw])) ⟨c,d,h1 hw⟩
 ·refine concat_meets ⟨_,c,rfl⟩ ⟨_,d,rfl⟩ noFill_tuple_add seq_tuple_add PySem.F.slot_tuple_add PySem.F.entry_tuple_add (PySem.F.args_tuple_add_2 _ _)
   (tuple_addW2 t b vs.toArray a.toArray n n2 dd g f h (by simpa using l) (by simpa using hw) (by rw[Ai,Ai];exact hsz)) ⟨c,d,?_⟩
  rw[e];exact h2 hw
def sIx(n d:Nat):Option Int->Nat
 |none=>d
 |some v=>if v<0 then(v+(n:Int)).toNat else min v.toNat n
def nG(n d:Nat):sIx n d none=d:=rfl
def lh(n d k:Nat):sIx n d (some (k:Int))=min k n:=by
 show(if(k:Int)<0 then((k:Int)+(n:Int)).toNat else min (k:Int).toNat n)=min k n;rw[if_neg ω,Int.toNat_natCast]
def Dm(n d:Nat)(hd:d<=n)(o:Option Int):sIx n d o<=n:=by
 cases o with
 |none=>exact hd
 |some v=>
  show(if v<0 then(v+(n:Int)).toNat else min v.toNat n)<=n
  by_cases a:v<0
  ·rw[if_pos a];omega
  ·rw[if_neg a];exact Nat.min_le_right _ _
def xD(v:Int)(n d:Nat):(if v<0 then max (v+(n:Int)) 0 else min v (n:Int))=((sIx n d (some v):Nat):Int):=by
 show(if v<0 then max (v+(n:Int)) 0 else min v (n:Int))=(((if v<0 then(v+(n:Int)).toNat else min v.toNat n):Nat):Int)
 by_cases a:v<0
 ·simp only[if_pos a];omega
 ·simp only[if_neg a];omega
def Dn(lo hi:Option Int)(n:Nat):Builtin.Slice.sliceAdjust lo hi 1 (n:Int)=(((sIx n 0 lo:Nat):Int),((sIx n n hi:Nat):Int)):=by
 have h1:¬((1:Int)<0):=ω
 unfold Builtin.Slice.sliceAdjust;simp only[h1,if_false];refine Prod.ext ?_ ?_
 ·cases lo with
  |none=>rfl
  |some v=>exact xD v n 0
 ·cases hi with
  |none=>rfl
  |some v=>exact xD v n n
def Do(i j:Nat):Builtin.Slice.slicePlaces (i:Int) (j:Int) 1=j-i:=by
 unfold Builtin.Slice.slicePlaces;have h1:(1:Int)>0:=ω
 simp only[h1,if_true,Int.ediv_one];split<;>omega
def xF{v:Value}{o:Option Int}{Q:Option Int->Shared->Prop}(p:IsPart v o)(h:Q o s):wpAny (model prog w) A (Builtin.Slice.slicePartIndex v) Q E s:=by
 cases p with
 |none=>exact slicePart_none h
 |int i t=>exact slicePart_int h
def xG{e:Addr}{c d:Value}{lo hi:Option Int}{n:Nat}{Q:Int×Int×Nat->Shared->Prop}(hs:s.heap.IsSliceOf e c d .none)(f:IsPart c lo)(g:IsPart d hi)(h:Q (((sIx n 0 lo:Nat):Int),1,sIx n n hi-sIx n 0 lo) s):wpAny (model prog w) A (Builtin.Slice.sliceApplied (.ref e) (pure (n:Int))) Q E s:=by
 obtain⟨os,a,i,b⟩:=id hs;unfold Builtin.Slice.sliceApplied Builtin.Slice.sliceFields;refine Aa (Aa (A6 a b (x:=c) rfl (Aa (A6 a b (x:=d) rfl (Aa (A6 a b (x:=.none) rfl (Ac ?_)))))));refine Aa (slicePart_none ?_);show wpAny _ _ (if((1:Int)==0)=true then _ else _) _ _ s;rw[if_neg ξ];refine Aa (xF f (Aa (xF g (Aa (Ac ?_)))));show wpAny _ _ (match Builtin.Slice.sliceAdjust lo hi 1 (n:Int) with|(lo,hi)=>pure (lo,(1:Int),Builtin.Slice.slicePlaces lo hi 1)) _ _ s;rw[Dn lo hi n];show wpAny _ _ (pure (((sIx n 0 lo:Nat):Int),(1:Int),Builtin.Slice.slicePlaces ((sIx n 0 lo:Nat):Int) ((sIx n n hi:Nat):Int) 1)) _ _ s;rw[Do];exact Ac h
def Dp(xs:Array Value)(i k:Nat):((Bb k).filterMap fun(m:Nat)=>xs[((i:Int)+(m:Int)*1).toNat]?).toArray=((xs.toList.drop i).take k).toArray:=by
 have e:(fun(m:Nat)=>xs[((i:Int)+(m:Int)*1).toNat]?)=fun m=>xs[i+m]?:=by
  funext m
  have:((i:Int)+(m:Int)*1).toNat=i+m:=ω
  rw[this]
 rw[e];have:=pick_run xs i k;rw[List.filterMap_map] at this;have e2:((fun x=>xs[x]?) ∘ fun x=>i+x)=fun m=>xs[i+m]?:=rfl;rw[e2] at this;rw[this]
def Dq{t d:Addr}{a:Array Value}{e f:Value}{lo hi:Option Int}{Q:Ω}(c:IsTup s.heap t a)(hs:s.heap.IsSliceOf d e f .none)(o:IsPart e lo)(p:IsPart f hi)(hw:¬(sIx a.size 0 lo=0/\sIx a.size a.size hi=a.size))(h:Q (.ref s⁻¹) {s with heap:=s.heap.push {cls:=.type "tuple",data:=.seq ((a.toList.drop (sIx a.size 0 lo)).take (sIx a.size a.size hi-sIx a.size 0 lo)).toArray}})(hsz:a.size<=sizeLine):wpAny (model prog w) A (getItem (.ref t) (.ref d)) Q E s:=by
 have b:sizeOk (.seq ((a.toList.drop (sIx a.size 0 lo)).take (sIx a.size a.size hi-sIx a.size 0 lo)).toArray):=by
  show((a.toList.drop (sIx a.size 0 lo)).take (sIx a.size a.size hi-sIx a.size 0 lo)).toArray.size<=sizeLine;rw[Ai,AM,List.length_drop,AQ];omega
 have u:sIx a.size a.size hi<=a.size:=Dm _ _ (Ah _) hi;obtain⟨os,g,i,r⟩:=id hs;have j:s.TypeIs (.ref d) "slice":=⟨os,g,i⟩;unfold getItem
 try with_reducible refine AI ?_
 first|refine Aa (Ac ?_)|skip
 refine Aa (wpAny_sequenceKey c.typeIs ξ ?_);refine Aa (wpAny_callSpecial?_slot (name:=Str.ofString "__getitem__") c.typeIs PyProof.Rows.slot_tuple_getitem
  (A0 PyProof.Rows.slot_tuple_getitem c.typeIs entry_tuple_getitem ?_ (args_tuple_getitem _ _)))
 show wpAny _ _ (Builtin.Tuple.tupleItemsOf (.ref t) >>= _) _ _ s;refine Aa (tupleItemsOf_ c ?_);refine Aa (wpAny_typeOf j ?_);rw[if_pos ξ];refine Aa (xG hs o p ?_);have l:¬((((sIx a.size 0 lo:Nat):Int)==0&&(1:Int)==1&&(sIx a.size a.size hi-sIx a.size 0 lo)==a.size)=true):=by
  intro q;rw[AN,AN] at q;have v:((sIx a.size 0 lo:Nat):Int)=0:=eq_of_beq q.1.1;have x:sIx a.size a.size hi-sIx a.size 0 lo=a.size:=eq_of_beq q.2;exact hw ⟨ω,ω⟩
 show wpAny _ _ (if(((sIx a.size 0 lo:Nat):Int)==0&&(1:Int)==1&&(sIx a.size a.size hi-sIx a.size 0 lo)==a.size)=true then _ else _) _ _ s;rw[if_neg l,Dp]
 first
  |exact Aa (m:=Builtin.Tuple.tupleExact _) (Bj (Ac ⟨_,rfl,Ac h⟩) b)
  |exact Aa (m:=Builtin.Tuple.tupleExact _) (Bj (Aa (Ac (Ac ⟨_,rfl,Ac h⟩))) b)
  |exact Aa (Aa (m:=Builtin.Tuple.tupleExact _) (Bj (Ac (Ac ⟨_,rfl,Ac h⟩)) b))
  |exact Aa (Aa (m:=Builtin.Tuple.tupleExact _) (Bj (Ac ⟨_,rfl,Ac h⟩) b))
end
end HT
namespace L2
open PySem PySem.Spec PyProof.Rows
abbrev TO:=St->Hp->(Option Int->Hp->Prop)->Prop
def PO(X:Cx)(e:Option Expr)(t:TO):Prop:=
 ∀(aa:Ψ)(s:Shared)(σ:St)(H:Hp)(Q:Option Int->Hp->Prop),Inv X aa σ H s->t σ H Q->
  wpAny (model X.prog X.w) X.A (evalPart e X.env) (fun u s'=>∃o H',Inv X aa σ H' s'/\IsPart u o/\Q o H') X.xe s
def rB:TO:=fun _ H Q=>Q none H
def rE(t:TE):TO:=fun σ H Q=>t σ H fun x H1=>∃i,x=.int i/\Q (some i) H1
def intsAre_of{ns:List Int}:∀{us:List Value},Vals (ns.map V.int) us->IntsAre us ns:=by
 induction ns with
 |nil=>intro us r;rw[List.map_nil] at r;cases r;exact .nil
 |cons n ns ih=>
  intro us r;rw[AE] at r;cases r with
  |cons r1 r2=>
   obtain⟨t,e⟩:=r1;subst e;exact .cons n t (ih r2)
section
variable{X:Cx}{e:Expr}{te:TE}{lo hi:Option Expr}{tl th:TO}{pos p2:Pos}
def jZ:PO X none rB:=by
 intro aa s σ H Q I h;rw[evalPart_none];exact Ac ⟨none,H,I,.none,h⟩
def j0(h:PE X e te):PO X (some e) (rE te):=by
 intro aa s σ H Q I hw;rw[evalPart_some];refine aJ (h aa s σ H _ I hw) fun u d ⟨x,H1,c,a,b⟩=>?_;obtain⟨i,rfl,q⟩:=b;obtain⟨t,rfl⟩:=a;exact⟨some i,H1,c,.int i t,q⟩
def nH(X:Cx)(r:V->Option Int->Option Int->Hp->VK->Prop):Prop:=
 ∀(aa:Ψ)(s:Shared)(σ:St)(H:Hp)(x:V)(v a b:Value)(lo hi:Option Int)(c:Addr)(Q:VK),Inv X aa σ H s->RelV x v->s.heap.IsSliceOf c a b .none->IsPart a lo->IsPart b hi->r x lo hi H Q->
  ∃T id,typeLookup (.type T) "__getitem__"=pure (some (.builtin id))/\s.TypeIs v T/\wpAny (model X.prog X.w) X.A (getItem v (.ref c)) (EP X aa σ Q) X.xe s
def rK(r:V->Option Int->Option Int->Hp->VK->Prop)(te:TE)(tl th:TO):TE:=fun σ H Q=>te σ H fun x H1=>tl σ H1 fun l H2=>th σ H2 fun u H3=>r x l u H3 Q
def j1{r:V->Option Int->Option Int->Hp->VK->Prop}(hr:nH X r)(he:PE X e te)(E:PO X lo tl)(hu:PO X hi th):PE X (.Subscript e (.Slice lo hi none p2) pos) (rK r te tl th):=by
 intro aa s σ H Q I h;refine Subscript_ (aJ (he aa s σ H _ I h) fun v f ⟨x,H1,F,g,i⟩=>?_);refine wpAny_Slice (aJ (E aa f σ H1 _ F i) fun c j ⟨l,H2,G,o,p⟩=>aJ (hu aa j σ H2 _ G p) fun d a ⟨u,H3,I3,y,z⟩=>?_);rw[evalPart_none];refine Ac ?_;have J:Inv X aa σ H3 {a with heap:=a.heap.push {cls:=.type "slice",data:=.fields #[c,d,.none]}}:=I3.kept (t':=a.toks) fun b ob q=>Ad _ q;obtain⟨T,id,hT,C,D⟩:=hr aa {a with heap:=a.heap.push {cls:=.type "slice",data:=.fields #[c,d,.none]}} σ H3 x v c d l u a⁻¹ Q J g (Heap.IsSliceOf.new ..) o y z;show wpAny (model X.prog X.w) X.A (subscriptTail e (.Slice lo hi none p2) v (.ref a⁻¹)) (EP X aa σ Q) X.xe {a with heap:=a.heap.push {cls:=.type "slice",data:=.fields #[c,d,.none]}};exact tail_any (ops:=[.ref a⁻¹,v]) C hT D (by with_unfolding_all rfl)
def bx(xs:List V)(lo hi:Option Int):List V:=(xs.drop (HT.sIx xs.length 0 lo)).take (HT.sIx xs.length xs.length hi-HT.sIx xs.length 0 lo)
def xH(xs:List V)(lo hi:Option Int):(bx xs lo hi).length<=xs.length:=by
 unfold bx;rw[AM,List.length_drop];omega
def rM(K:Ae):V->Option Int->Option Int->Hp->VK->Prop:=fun x lo hi H Q=>∃a xs,x=.ref a/\SqT K H a xs/\
 ¬(HT.sIx xs.length 0 lo=0/\HT.sIx xs.length xs.length hi=xs.length)/\∀p,H p=none->Q (.ref p) (upd H p (.tup (bx xs lo hi)))
def xI:nH X (rM X.K):=by
 intro aa s σ H x v j l lo hi p Q I e hs f g h;obtain⟨a,xs,rfl,hx,hw,q⟩:=h;cases e;obtain⟨i,r,d,hz⟩:=I.tuple hx;have c:i.toArray.size=xs.length:=by rw[Ai];exact r.length.symm
 refine⟨"tuple",_,PyProof.Rows.slot_tuple_getitem.lookup,d.typeIs,?_⟩;refine HT.Dq d hs f g (by rw[c];exact hw) ?_ (by rw[c];exact hz);rw[c];refine⟨.ref s⁻¹,_,I.laid (t':=s.toks) (o:=.tup (bx xs lo hi)) (fun b ob q=>Ad _ q) (Ah _) ?_,rfl,q _ (I.hok.fresh (Ah _))⟩;exact⟨AF (xH xs lo hi) hz,_,(r.drop (HT.sIx xs.length 0 lo)).take (HT.sIx xs.length xs.length hi-HT.sIx xs.length 0 lo),IsTup.new _ _⟩
def Vals.nil_iff{xs:List V}{us:List Value}(r:Vals xs us):us=[]↔xs=[]:=by
 cases r with
 |nil=>simp
 |cons _ _=>simp
end
def gS(n:Nat)(i:Int):Option Nat:=if 0<=i then(if i<n then some i.toNat else none) else if -(n:Int)<=i then some (i+n).toNat else none
def eC{a:Type}(xs:List a)(i:Int):Option a:=(gS xs.length i).bind fun j=>xs[j]?
def xJ{n:Nat}{i:Int}{j:Nat}(h:gS n i=some j):seqIndex? i n=some j/\j<n/\-(n:Int)<=i/\i<n:=by
 unfold gS at h
 by_cases a:0<=i
 ·rw[if_pos a] at h
  by_cases h1:i<n
  ·rw[if_pos h1] at h
   have e:i.toNat=j:=Al h;exact⟨by rw[seqIndex_of a h1,e],ω,ω,h1⟩
  ·rw[if_neg h1] at h;cases h
 ·rw[if_neg a] at h
  by_cases h1:-(n:Int)<=i
  ·rw[if_pos h1] at h
   have e:(i+n).toNat=j:=Al h;exact⟨by rw[seqIndex_neg ω h1,e],ω,h1,ω⟩
  ·rw[if_neg h1] at h;cases h
def xL{a:Type}{xs:List a}{i:Int}{v:a}(h:eC xs i=some v):∃j,seqIndex? i xs.length=some j/\xs[j]?=some v/\j<xs.length/\-(xs.length:Int)<=i/\i<xs.length:=by
 unfold eC at h;cases e:gS xs.length i with
 |none=>rw[e] at h;cases h
 |some j=>
  rw[e] at h;obtain⟨h1,h2,b,c⟩:=xJ e;exact⟨j,h1,h,h2,b,c⟩
def ff{a:Type}{xs:List a}{j:Nat}{v:a}(h:xs[j]?=some v):eC xs (j:Int)=some v:=by
 have b:j<xs.length:=(List.getElem?_eq_some_iff.mp h).1;have e:gS xs.length (j:Int)=some j:=by
  unfold gS;rw[if_pos ω,if_pos ω];simp
 unfold eC;rw[e];exact h
def Dr{a:Type}(xs:List a)(v:a):eC (xs++[v]) (-1)=some v:=by
 have b:(xs++[v]).length=xs.length+1:=by simp
 have e:gS (xs++[v]).length (-1)=some xs.length:=by
  unfold gS;rw[b,if_neg ξ,if_pos ω]
  congr 1
  omega
 unfold eC;rw[e];show(xs++[v])[xs.length]?=some v;simp
def Ds(b:Expr):Prop:=∀o i,subscripted b false o i=operate [o,i] (getItem o i)
def rP(X:Cx)(r:R2):Prop:=
 ∀(aX slice:Expr)(aa:Ψ)(s:Shared)(σ:St)(H:Hp)(x y:V)(v u:Value)(Q:VK),Inv X aa σ H s->RelV x v->RelV y u->r x y H Q->
  subscripted slice false v u=operate [v,u] (getItem v u)->wpAny (model X.prog X.w) X.A (subscriptTail aX slice v u) (EP X aa σ Q) X.xe s
def nI(X:Cx)(id:String)(r:V->List V->Hp->VK->Prop):Prop:=
 ∀(aa:Ψ)(s:Shared)(σ:St)(H:Hp)(x:V)(xs:List V)(v:Value)(us:List Value)(Q:VK),Inv X aa σ H s->RelV x v->Vals xs us->r x xs H Q->
  wpAny (model X.prog X.w) X.A (call (.builtin id) (v::us)) (EP X aa σ Q) X.xe s
section
variable{X:Cx}{a b:Expr}{ta tb:TE}{pos:Pos}
def bO{r:R2}(hr:rP X r)(f:PE X a ta)(hb:PE X b tb)(hs:Ds b):PE X (.Subscript a b pos) (da r ta tb):=by
 intro aa s σ H Q I h;exact Subscript_ (jf f hb I h fun v u c x y H2 g d e q=>hr a b aa c σ H2 x y v u Q g d e q (hs _ _))
def r_(K:Ae):R2:=fun x y H Q=>∃p xs i v,x=.ref p/\y=.int i/\SqL K H p xs/\eC xs i=some v/\Q v H
def eE(K:Ae):R2:=fun x y H Q=>∃p xs i v,x=.ref p/\y=.int i/\SqT K H p xs/\eC xs i=some v/\Q v H
def zG:rP X (r_ X.K):=by
 intro aX slice aa s σ H x y v u Q I e f h hs;obtain⟨p,xs,i,z,rfl,rfl,hq,he,q⟩:=h;cases e;obtain⟨t,rfl⟩:=f;obtain⟨g,r,a,hz⟩:=I.list hq;obtain⟨j,h1,h2,D,l,o⟩:=xL he;obtain⟨w,c,A⟩:=r.get h2;have C:=r.length;have E:=dj;have fin:EP X aa σ Q w s:=⟨z,H,I,A,q⟩
 by_cases d:0<=i
 ·have b:i.toNat=j:=by
   rw[seqIndex_of d o] at h1;exact Al h1
  exact item_listR a.isList d ω (by rw[b];simpa using c) fin hs
 ·have b:(i+(g.toArray.size:Int)).toNat=j:=by
   rw[seqIndex_neg ω l] at h1;rw[Ai,<-C];exact Al h1
  exact subscriptTail_builtinR (x:=w) a.isList.typeIs slot_list_getitem.lookup
   (wpAny_getItem_list_neg (Q:=fun r s'=>r=w/\EP X aa σ Q r s') a.isList ω (by rw[Ai]<;>omega) ω (by rw[b];simpa using c) ⟨rfl,fin⟩) hs
def j3:rP X (eE X.K):=by
 intro aX slice aa s σ H x y v u Q I b c h hs;obtain⟨p,xs,i,z,rfl,rfl,hq,he,q⟩:=h;cases b;obtain⟨t,rfl⟩:=c;obtain⟨g,r,a,hz⟩:=I.tuple hq;obtain⟨j,h1,h2,l,o,A⟩:=xL he;obtain⟨w,d,e⟩:=r.get h2;have f:=r.length;have C:=dj;have fin:EP X aa σ Q w s:=⟨z,H,I,e,q⟩;exact subscriptTail_builtinR (x:=w) a.typeIs slot_tuple_getitem.lookup
  (getItem_tuple (j:=j) (Q:=fun r s'=>r=w/\EP X aa σ Q r s') a ω ω (by rw[Ai,<-f];exact h1) (by simpa using d) ⟨rfl,fin⟩) hs
def Dt(a:List Value)(n j:Nat)(u:Value):AA (·.setIfInBounds j u) {cls:=.type "list",data:=.seq a.toArray n}={cls:=.type "list",data:=.seq (a.set j u).toArray n}:=by
 simp[AA]
def Inv.lst{aa:Ψ}{σ:St}{H:Hp}{s:Shared}{p:Addr}{xs:List V}(I:Inv X aa σ H s)(h:H p=some (.lst xs)):∃(a:List Value)(n:Nat),Vals xs a/\s.heap.get? p=some {cls:=.type "list",data:=.seq a.toArray n}/\xs.length<=sizeLine:=by
 obtain⟨z,a,n,r,e⟩:=I.hok p _ h;exact⟨a,n,r,e,z⟩
def Inv.lstUpd{aa:Ψ}{σ:St}{H:Hp}{s:Shared}{p:Addr}{xs ys:List V}{c its':List Value}{n a:Nat}{f:Obj->Obj}(I:Inv X aa σ H s)(h:H p=some (.lst xs))(d:s.heap.get? p=some {cls:=.type "list",data:=.seq c.toArray n})(hf:f {cls:=.type "list",data:=.seq c.toArray n}={cls:=.type "list",data:=.seq its'.toArray a})(r:Vals ys its')(hz:ys.length<=sizeLine)(t:Nat):Inv X aa σ (upd H p (.lst ys)) {s with heap:=s.heap.update p f,toks:=t}:=by
 have e:(s.heap.update p f).get? p=some {cls:=.type "list",data:=.seq its'.toArray a}:=by
  rw[Heap.get?_update_self f d (by rw[hf]<;>rfl),hf]
 refine I.write (x:=p) (e:=p) (by rw[h];trivial) (.inl rfl) (fun b u hb q=>(Heap.get?_update_other _ _ (Ne.symm hb)).trans q) ⟨_,e⟩ ?_;exact⟨hz,its',a,r,e⟩
def Du:V->V->V->Hp->(Hp->Prop)->Prop:=fun o i v H Q=>∃p xs k j,o=.ref p/\i=.int k/\H p=some (.lst xs)/\gS xs.length k=some j/\Q (upd H p (.lst (xs.set j v)))
def set_list:kT X Du:=by
 intro aa s σ H o i v z A u Q I l w x h;obtain⟨p,xs,k,j,rfl,rfl,hp,y,q⟩:=h;cases l;obtain⟨t,rfl⟩:=w;obtain⟨c,n,r,a,hz⟩:=I.lst hp;obtain⟨h1,h2,d,e⟩:=xJ y;have b:=r.length;have C:=dj;have g:Inv X aa σ (upd H p (.lst (xs.set j v))) {s with heap:=s.heap.update p (AA (·.setIfInBounds j u))}:=
  I.lstUpd hp a (Dt c n j u) (r.set x j) (by rw[List.length_set];exact hz) s.toks
 by_cases f:0<=k
 ·have hk:k.toNat=j:=by
   rw[seqIndex_of f e] at h1;exact Al h1
  exact PySem.W.ki_setAt a f ω (by rw[Ai,<-b];exact e) (by rw[hk];exact⟨_,g,q⟩)
 ·have hk:(k+(c.toArray.size:Int)).toNat=j:=by
   rw[seqIndex_neg ω d] at h1;rw[Ai,<-b];exact Al h1
  exact PySem.W.ki_setBack a ω (by rw[Ai,<-b];exact d) ω (by rw[hk];exact⟨_,g,q⟩)
def Dv(lo hi:Option Int)(n:Nat):(sliceBounds lo hi none n).1=((HT.sIx n 0 lo:Nat):Int)/\(sliceBounds lo hi none n).2.1=((HT.sIx n n hi:Nat):Int)/\(sliceBounds lo hi none n).2.2=1:=by
 refine⟨?_,?_,rfl⟩
 ·cases lo with
  |none=>simp[sliceBounds,HT.sIx]
  |some i=>
   simp only[sliceBounds,HT.sIx,Option.getD_none,show(1:Int)>0 from ξ,if_true]
   by_cases h:i<0
   ·simp only[h,if_true]<;>omega
   ·simp only[h,if_false]<;>omega
 ·cases hi with
  |none=>simp[sliceBounds,HT.sIx]
  |some i=>
   simp only[sliceBounds,HT.sIx,Option.getD_none,show(1:Int)>0 from ξ,if_true]
   by_cases h:i<0
   ·simp only[h,if_true]<;>omega
   ·simp only[h,if_false]<;>omega
def Dw(a:List Value)(lo hi:Option Int):slicePick a.toArray lo hi none=((a.drop (HT.sIx a.length 0 lo)).take (HT.sIx a.length a.length hi-HT.sIx a.length 0 lo)).toArray:=by
 obtain⟨h1,h2,b⟩:=Dv lo hi a.toArray.size;unfold slicePick;rw[h1,h2,b];simp only[sliceRange_one,pick_run,Ai]<;>rfl
def sd(K:Ae):V->Option Int->Option Int->Hp->VK->Prop:=fun x lo hi H Q=>∃a xs,x=.ref a/\SqL K H a xs/\∀p,H p=none->Q (.ref p) (upd H p (.lst (bx xs lo hi)))
def Dx:nH X (sd X.K):=by
 intro aa s σ H x v i j lo hi l Q I e hs f g h;obtain⟨a,xs,rfl,hx,q⟩:=h;cases e;obtain⟨p,r,d,hz⟩:=I.list hx;have c:=r.length;refine⟨"list",_,slot_list_getitem.lookup,d.isList.typeIs,?_⟩;refine wpAny_getItem_list_slice d.isList hs f g .none (by simp) ?_ (by rw[Ai]<;>omega);rw[Dw,<-c];refine⟨.ref s⁻¹,_,I.laid (t':=s.toks) (o:=.lst (bx xs lo hi)) (fun b ob q=>Ad _ q) (Ah _) ?_,rfl,q _ (I.hok.fresh (Ah _))⟩;exact⟨AF (xH xs lo hi) hz,_,0,(r.drop (HT.sIx xs.length 0 lo)).take (HT.sIx xs.length xs.length hi-HT.sIx xs.length 0 lo),Ar _ rfl⟩
def fC:V->Bool
 |.non=>true
 |.bl _=>true
 |.int _=>true
 |.str _=>true
 |_=>false
def eF:V->V->Bool
 |.non,.non=>true
 |.bl a,.bl b=>a==b
 |.bl a,.int b=>(if a then 1 else 0)==b
 |.int a,.bl b=>a==(if b then 1 else 0)
 |.int a,.int b=>a==b
 |.str a,.str b=>a==b
 |_,_=>false
def Dy{A:Around}{s:Shared}{y x:V}{u v:Value}(d:RelV y u)(c:RelV x v)(e:fC y=true)(fx:fC x=true):SeqAt.EqAt A s u v (eF y x):=by
 cases y with
 |non=>
  cases d;cases x with
  |non=>cases c;exact SeqAt.EqAt.same _
  |bl b=>cases c;exact SeqAt.EqAt.none_bool b
  |int b=>obtain⟨t,rfl⟩:=c;exact SeqAt.EqAt.none_int b t
  |str b=>obtain⟨t,rfl⟩:=c;exact SeqAt.EqAt.none_str b t
  |_=>exact absurd (show false=true from fx) Au
 |bl a=>
  cases d;cases x with
  |non=>cases c;exact SeqAt.EqAt.bool_none a
  |bl b=>cases c;exact SeqAt.EqAt.bool_bool a b
  |int b=>obtain⟨t,rfl⟩:=c;exact SeqAt.EqAt.bool_int a b t
  |str b=>obtain⟨t,rfl⟩:=c;exact SeqAt.EqAt.bool_str a b t
  |_=>exact absurd (show false=true from fx) Au
 |int a=>
  obtain⟨t',rfl⟩:=d;cases x with
  |non=>cases c;exact SeqAt.EqAt.int_none a t'
  |bl b=>cases c;exact SeqAt.EqAt.int_bool a t' b
  |int b=>obtain⟨t,rfl⟩:=c;exact SeqAt.EqAt.int_int a t' b t
  |str b=>obtain⟨t,rfl⟩:=c;exact SeqAt.EqAt.int_str a t' b t
  |_=>exact absurd (show false=true from fx) Au
 |str a=>
  obtain⟨t',rfl⟩:=d;cases x with
  |non=>cases c;exact SeqAt.EqAt.str_none a t'
  |bl b=>cases c;exact SeqAt.EqAt.str_bool a t' b
  |int b=>obtain⟨t,rfl⟩:=c;exact SeqAt.EqAt.str_int a t' b t
  |str b=>obtain⟨t,rfl⟩:=c;exact SeqAt.EqAt.str_str a t' b t
  |_=>exact absurd (show false=true from fx) Au
 |_=>exact absurd (show false=true from e) Au
def gT(x:V)(u:Value):Bool:=match u with
 |.none=>eF .non x
 |.bool b=>eF (.bl b) x
 |.int i _=>eF (.int i) x
 |.str z _=>eF (.str z) x
 |_=>false
def sg{x y:V}{u:Value}(r:RelV y u)(f:fC y=true):gT x u=eF y x:=by
 cases y with
 |non=>cases r;rfl
 |bl b=>cases r;rfl
 |int i=>obtain⟨t,rfl⟩:=r;rfl
 |str z=>obtain⟨t,rfl⟩:=r;rfl
 |_=>exact absurd (show false=true from f) Au
def sh{A:Around}{s:Shared}{x:V}{v:Value}(a:RelV x v)(fx:fC x=true):∀{xs:List V}{us:List Value},Vals xs us->xs.all fC=true->∀u∈us,SeqAt.EqAt A s u v (gT x u)
 |_,_,.nil,_=>fun u hu=>by cases hu
 |y::xs,u::us,.cons r t,f=>fun b hu=>by
  rw[List.all_cons,AN] at f;rcases List.mem_cons.mp hu with rfl|hu
  ·rw[sg r f.1];exact Dy r a f.1 fx
  ·exact sh a fx t f.2 b hu
def zm:bU X (.builtin "len") (fun xs H Q=>∃p ys,xs=[.ref p]/\(SqL X.K H p ys\/SqT X.K H p ys)/\Q (.int ys.length) H):=by
 intro aa s σ H xs us Q I r h;obtain⟨p,ys,rfl,hq,q⟩:=h;obtain⟨u,rfl,d⟩:=vals1 r;cases d;have f:=dj;rcases hq with hq|hq
 ·obtain⟨e,b,c,hz⟩:=I.list hq
  have a:=b.length;exact Calls.call_len_list c.isList (by simp only[Ai]<;>omega) ⟨.int ys.length,H,I.tok _,⟨s.toks+1,by rw[Ai,a]⟩,q⟩
 ·obtain⟨e,b,c,hz⟩:=I.tuple hq
  have a:=b.length;exact len_tuple c (by simp only[Ai]<;>omega) ⟨.int ys.length,H,I.tok _,⟨s.toks+1,by rw[Ai,a]⟩,q⟩
def nJ:bU X (.type "list") (fun xs H Q=>∃p ys,xs=[.ref p]/\(SqL X.K H p ys\/SqT X.K H p ys)/\∀l,H l=none->Q (.ref l) (upd H l (.lst ys))):=by
 intro aa s σ H xs us Q I r h;obtain⟨p,ys,rfl,hq,q⟩:=h;obtain⟨u,rfl,j⟩:=vals1 r;cases j;have fin:∀(a:List Value),Vals ys a->ys.length<=sizeLine->∀(h':Heap)(c':Nat),(∀b o',s.heap.get? b=some o'->h'.get? b=some o')->
   h'.get? s⁻¹=some {cls:=.type "list",dict:=none,data:=.seq a.toArray c',slots:=#[]}->EP X aa σ Q (.ref s⁻¹) {s with heap:=h'}:=fun a c hz h' c' d e=>
  ⟨.ref s⁻¹,_,I.laid (t':=s.toks) d (Ah _) (show zC X.prog X.w _ h' _ (.lst ys) from⟨hz,a,c',c,e⟩),rfl,q _ (I.hok.fresh (Ah _))⟩
 rcases hq with hq|hq
 ·obtain⟨a,c,g,hz⟩:=I.list hq
  have f:=c.length;obtain⟨o,i,hc,n,hd⟩:=g.isList;exact call_list_seq p (.inl rfl) i hc hd (fun h' c' d e=>fin a c hz h' c' d e) (by simp only[Ai]<;>omega)
 ·obtain⟨a,c,g,hz⟩:=I.tuple hq
  have f:=c.length;obtain⟨o,i,hc,n,hd⟩:=g;exact call_list_seq p (.inr rfl) i hc hd (fun h' c' d e=>fin a c hz h' c' d e) (by simp only[Ai]<;>omega)
def si:bU X (.type "tuple") (fun xs H Q=>∃p ys,xs=[.ref p]/\((SqL X.K H p ys/\∀l,H l=none->Q (.ref l) (upd H l (.tup ys)))\/(SqT X.K H p ys/\Q (.ref p) H))):=by
 intro aa s σ H xs us Q I r h;obtain⟨p,ys,rfl,h⟩:=h;obtain⟨u,rfl,i⟩:=vals1 r;cases i;rcases h with ⟨hq,q⟩|⟨hq,q⟩
 ·obtain⟨a,c,d,hz⟩:=I.list hq
  have f:=c.length;refine call_tuple_list d.isList (fun h' g=>?_) (by simp only[Ai]<;>omega);have I1:Inv X aa σ H {s with heap:=h'}:=I.kept (t':=s.toks) g;have j:Inv X aa σ (upd H h'.objs.size (.tup ys)) {s with heap:=h'.push {cls:=.type "tuple",data:=.seq a.toArray}}:=
   I1.laid (t':=s.toks) (fun b o e=>Ad _ e) (Ah _) (show zC X.prog X.w _ _ _ (.tup ys) from⟨hz,a,c,IsTup.new _ _⟩)
  exact⟨.ref h'.objs.size,_,j,rfl,q _ (I1.hok.fresh (Ah _))⟩
 ·obtain⟨a,c,d,hz⟩:=I.tuple hq
  exact call_tuple_same d ⟨.ref p,H,I,rfl,q⟩
def sk(K:Ae)(T:String)(x:V)(H:Hp):Prop:=match x with
 |.str _=>T="str"
 |.int _=>T="int"
 |.ref p=>(T="list"/\∃xs,SqL K H p xs)\/(T="tuple"/\∃o,K.lookup p=some o/\o.cls=.type "tuple"/\o.dict=none) \/
   (T="dict"/\((∃kvs,H p=some (.dK kvs))\/∃kvs,H p=some (.dT kvs)))\/(T="set"/\∃S n,H p=some (.set S n))
 |_=>False
def xM{aa:Ψ}{σ:St}{H:Hp}{s:Shared}{T:String}{x:V}{v:Value}(I:Inv X aa σ H s)(r:RelV x v)(ty:sk X.K T x H):s.TypeIs v T/\∀a,v=.ref a->∃ob,s.heap.get? a=some ob/\ob.dict=none:=by
 cases x with
 |str z=>
  obtain⟨t,rfl⟩:=r;cases(show T="str" from ty);exact⟨typeIs_str s z t,fun _ e=>nomatch e⟩
 |int i=>
  obtain⟨t,rfl⟩:=r;cases(show T="int" from ty);exact⟨typeIs_int s i t,fun _ e=>nomatch e⟩
 |ref p=>
  cases r;rcases ty with ⟨rfl,xs,hq⟩|⟨rfl,o,hk,hc,hd⟩|⟨rfl,hk⟩|⟨rfl,S,n,hk⟩
  ·obtain⟨d,_,b,_⟩:=I.list hq
   refine⟨b.isList.typeIs,fun a e=>?_⟩;cases e;obtain⟨o,n,e,c,hd,_⟩:=b;exact⟨o,e,hd⟩
  ·refine⟨⟨o,I.kIn p o hk,hc⟩,fun a e=>?_⟩
   cases e;exact⟨o,I.kIn _ o hk,hd⟩
  ·have z:∃o,s.heap.get? p=some o/\o.ExactDict:=by
    rcases hk with ⟨kvs,hk⟩|⟨kvs,hk⟩
    ·obtain⟨_,_,_,_,o,_,_,e,ex,_⟩:=I.hok p _ hk
     exact⟨o,e,ex⟩
    ·obtain⟨_,_,_,_,o,_,_,e,ex,_⟩:=I.hok p _ hk
     exact⟨o,e,ex⟩
   obtain⟨o,e,ex⟩:=z;refine⟨⟨o,e,ex.1⟩,fun a e2=>?_⟩;cases e2;exact⟨o,e,ex.2.1⟩
  ·obtain⟨o,_,_,_,e,ex,_⟩:=I.hok p _ hk
   refine⟨⟨o,e,ex.1⟩,fun a e2=>?_⟩;cases e2;exact⟨o,e,ex.2.1⟩
 |_=>exact Be ty
def sm(K:Ae)(T:String)(r:V->List V->Hp->VK->Prop)(to:TE):TE:=fun σ H Q=>to σ H fun x H1=>sk K T x H1/\r x [] H1 Q
def Dz(K:Ae)(T:String)(r:V->List V->Hp->VK->Prop)(to:TE)(t:TA):TE:=fun σ H Q=>to σ H fun x H1=>sk K T x H1/\t σ H1 fun xs H2=>r x xs H2 Q
variable{o e:Expr}{es:List Expr}{to:TE}{t:TA}{name:Str}{aU aA:Pos}{T id:String}{r:V->List V->Hp->VK->Prop}
def xN(e:PlainAttrs T)(slot:Slot T name id)(f:typeOf (.builtin id)=pure (.type "method_descriptor"))(hm:nI X id r)(g:PE X o to)(i:attributeBase o name X.env (eval o X.env)=eval o X.env:=by rfl)(j:(aU.endLine==aA.line)=true:=by rfl):PE X (.Call (.Attribute o name aU) [] [] aA) (sm X.K T r to):=by
 intro aa s σ H Q I h;refine wpAny_Call_method0_late i j (aJ (g aa s σ H _ I h) fun v c ⟨x,H1,b,a,ty,d⟩=>?_);obtain⟨h1,h2⟩:=xM b a ty;exact⟨T,id,e,slot,f,h1,h2,Calls.callWith_builtin rfl (PySem.evalArgs_none (hm aa c σ H1 x [] v [] Q b a .nil d))⟩
def jt(p:PlainAttrs T)(slot:Slot T name id)(q:typeOf (.builtin id)=pure (.type "method_descriptor"))(hm:nI X id r)(u:PE X o to)(w:PA X (e::es) t)(y:attributeBase o name X.env (eval o X.env)=eval o X.env:=by rfl)
  (z:((backTo aA (starEach (e::es) X.env)).all (fun x=>!x.1)&&(backToKw aA (keywordEach [] X.env)).all (fun x=>x.1.isSome)
   && decide ((e::es).length+([]:List Keyword).length+(if([]:List Keyword).isEmpty then 0 else 1)<30))=true:=by rfl)
  (A:(aU.endLine==aA.line)=true:=by rfl) (hs:starEach (e::es) X.env=(false,eval e X.env)::starEach es X.env:=by rfl) (C:(backTo aA (starEach es X.env)).any (·.1)=false:=by rfl) :
  PE X (.Call (.Attribute o name aU) (e::es) [] aA) (Dz X.K T r to t):=by
 intro aa s σ H Q I h;refine wpAny_Call_method_late y z A rfl (aJ (u aa s σ H _ I h) fun v f ⟨x,H1,d,b,ty,g⟩=>?_);obtain⟨h1,h2⟩:=xM d b ty;refine⟨T,id,p,slot,q,h1,h2,?_⟩;have c:=w aA aa f σ H1 _ d g;rw[hs] at c ⊢;refine Calls.callWith_builtin (by show(false|| (backTo aA (starEach es X.env)).any (·.1))=false;rw[C]<;>rfl) (Calls.evalArgs_plain ?_);exact aJ c fun us i ⟨vs,H2,D,j,l⟩=>hm aa i σ H2 x vs v us Q D b j l
end
def j6(X:Cx)(id:String)(r:V->List V->Hp->VK->Prop):Prop:=
 ∀(aa:Ψ)(s:Shared)(σ:St)(H:Hp)(x:V)(xs:List V)(v:Value)(us:List Value)(Q:VK),Inv X aa σ H s->RelV x v->Vals xs us->r x xs H Q->
  wpAny (model X.prog X.w) X.A (call (.builtin id) (v::us)) (EP X aa σ Q) X.xe s
def Vals.one{x:V}{us:List Value}(h:Vals [x] us):∃u,us=[u]/\RelV x u:=by
 cases h with|cons r t=>cases t;exact⟨_,rfl,r⟩
def Vals.two{x y:V}{us:List Value}(h:Vals [x,y] us):∃u v,us=[u,v]/\RelV x u/\RelV y v:=by
 cases h with|cons r t=>obtain⟨v,rfl,q⟩:=Vals.one t;exact⟨_,_,rfl,r,q⟩
def Vals.zero:∀{us:List Value},Vals [] us->us=[]
 |_,.nil=>rfl
def Vals.eraseIdx:∀{xs:List V}{us:List Value}(i:Nat),Vals xs us->Vals (xs.eraseIdx i) (us.eraseIdx i)
 |_,_,_,.nil=>.nil
 |_,_,0,.cons _ t=>t
 |_,_,i+1,.cons r t=>.cons r (Vals.eraseIdx i t)
section
variable{X:Cx}{aa:Ψ}{σ:St}{H:Hp}{s:Shared}{l b:Addr}{xs ys zs:List V}
def Inv.lset{a its':List Value}{n:Nat}{f:Array Value->Array Value}{t':Nat}(I:Inv X aa σ H s)(b:H l=some (.lst xs))(e:s.heap.get? l=some {cls:=.type "list",data:=.seq a.toArray n})(hf:f a.toArray=its'.toArray)(c:Vals ys its')(hz:ys.length<=sizeLine):Inv X aa σ (upd H l (.lst ys)) {s with heap:=s.heap.update l (AA f),toks:=t'}:=by
 have q:=PySem.IsL.update e f;rw[hf] at q;refine I.write (x:=l) (e:=l) (by rw[b];exact trivial) (.inl rfl) (fun d u hb hu=>(Heap.get?_update_other s.heap (AA f) (Ne.symm hb)).trans hu) ⟨_,q⟩ ?_;exact⟨hz,its',_,c,q⟩
def Inv.lnew{a:List Value}{t':Nat}(I:Inv X aa σ H s)(b:Vals ys a)(hz:ys.length<=sizeLine):Inv X aa σ (upd H s⁻¹ (.lst ys)) {s with heap:=s.heap.push {cls:=.type "list",data:=.seq a.toArray},toks:=t'}:=
 I.laid (fun _ _ q=>Ad _ q) (Ah _) ⟨hz,a,0,b,Ar _ rfl⟩
def Inv.fresh(I:Inv X aa σ H s):H s⁻¹=none:=I.hok.fresh (Ah _)
def Inv.lstM(I:Inv X aa σ H s)(b:H l=some (.lst xs)):xs.length<=sizeLine/\∃(a:List Value)(n:Nat),Vals xs a/\xs.length=a.length/\s.heap.get? l=some {cls:=.type "list",data:=.seq a.toArray n}:=by
 obtain⟨z,a,n,r,e⟩:=I.hok l _ b;exact⟨z,a,n,r,r.length,e⟩
end
section
variable{X:Cx}
def zlf:V->List V->Hp->VK->Prop:=fun x vs H Q=>∃l xs y,x=.ref l/\vs=[y]/\H l=some (.lst xs)/\xs.length<sizeLine/\Q .non (upd H l (.lst (xs++[y])))
def nL:j6 X "list.append" zlf:=by
 intro aa s σ H x vs v us Q I c d h;obtain⟨l,xs,y,rfl,rfl,a,hz,q⟩:=h;cases c;obtain⟨u,rfl,f⟩:=d.one;obtain⟨z,b,n,r,g,e⟩:=I.lstM a;refine call_meets F.slot_list_append ⟨_,e,rfl⟩ F.entry_list_append (F.args_list_append_2 _ _) (PySem.list_append l b.toArray n u (by rw[Ai];omega)) ⟨e,?_⟩;refine⟨.non,_,I.lset (its':=b++[u]) a e (by simp) (r.append (.cons f .nil)) ?_,rfl,q⟩;rw[AC,List.length_singleton];omega
def zmr:V->List V->Hp->VK->Prop:=fun x vs H Q=>∃l xs,x=.ref l/\vs=[]/\H l=some (.lst xs)/\Q .non (upd H l (.lst []))
def xO:j6 X "list.clear" zmr:=by
 intro aa s σ H x vs v us Q I b c h;obtain⟨l,xs,rfl,rfl,a,q⟩:=h;cases b;have f:=c.zero;subst f;obtain⟨z,d,n,r,g,e⟩:=I.lstM a;refine call_meets F.slot_list_clear ⟨_,e,rfl⟩ F.entry_list_clear (F.args_list_clear_1 _) (AutoSeq1.list_clear_list_0 l d.toArray n (by rw[Ai];omega)) ⟨e,?_⟩;exact⟨.non,_,I.lset (its':=[]) (ys:=[]) a e rfl .nil (AK _),rfl,q⟩
def sr:R2:=fun x y H Q=>∃l b xs zs,x=.ref l/\y=.ref b/\H l=some (.lst xs)/\H b=some (.lst zs)/\xs.length+zs.length<=sizeLine/\∀p,H p=none->Q (.ref p) (upd H p (.lst (xs++zs)))
def j7:bw X (binaryOp .Add) sr:=by
 intro aa s σ H x y v u Q I d f h;obtain⟨l,b,xs,zs,rfl,rfl,g,i,hz,q⟩:=h;cases d;cases f;obtain⟨z,a,n,r,w,e⟩:=I.lstM g;obtain⟨z2,c,n2,j,o,e2⟩:=I.lstM i;refine PySem.P.add_list e e2 ?_ (by rw[Ai,Ai];omega);have p:a.toArray++c.toArray=(a++c).toArray:=by simp
 rw[p];exact⟨.ref _,_,I.lnew (t':=s.toks) (r.append j) (by rw[AC];omega),rfl,q _ I.fresh⟩
end
section
variable{prog:Program}{w:World}{A:Around}{E:Ω}{s:Shared}
set_option maxRecDepth 100000 in
end
section
variable{κ:Type}[DecidableEq κ]
def a6(kvs:List (κ×V))(k:κ):Option V:=(kvs.find? fun kv=>decide (kv.1=k)).map (·.2)
def putK(kvs:List (κ×V))(k:κ)(v:V):List (κ×V):=
 if(kvs.any fun kv=>decide (kv.1=k))=true then kvs.map (fun kv=>if kv.1=k then(kv.1,v) else kv) else kvs++[(k,v)]
def jv(kvs:List (κ×V))(k:κ):List (κ×V):=kvs.filter fun kv=>decide (kv.1≠k)
def nM{p:κ×V}{r:List (κ×V)}{k:κ}(e:p.1=k):a6 (p::r) k=some p.2:=by simp[a6,List.find?_cons,e]
def nO{p:κ×V}{r:List (κ×V)}{k:κ}(e:¬p.1=k):a6 (p::r) k=a6 r k:=by simp[a6,List.find?_cons,e]
def ss(k:κ):∀kvs:List (κ×V),(kvs.any fun kv=>decide (kv.1=k))=(a6 kvs k).isSome
 |[]=>rfl
 |p::r=>by
  rw[List.any_cons]
  by_cases e:p.1=k
  ·simp only[nM e,decide_eq_true e,Bool.true_or,Option.isSome_some]
  ·rw[nO e,decide_eq_false e,Bool.false_or];exact ss k r
def nP(kvs:List (κ×V))(k:κ)(v:V):(putK kvs k v).length<=kvs.length+1:=by
 unfold putK;split
 ·rw[Ab];omega
 ·rw[AC,Aw,List.length_nil];omega
def xQ{kvs:List (κ×V)}{k:κ}(v:V)(h:a6 kvs k=none):putK kvs k v=kvs++[(k,v)]:=by
 unfold putK;rw[ss,h];exact if_neg ξ
def RelO.isSome_eq{o:Option V}{u:Option Value}(r:RelO o u):o.isSome=u.isSome:=by
 cases o with
 |none=>cases u with
  |none=>rfl
  |some _=>exact(show False from r).elim
 |some _=>cases u with
  |none=>exact(show False from r).elim
  |some _=>rfl
def KV.val{kvs:List (κ×V)}{vs:List (κ×Value)}(r:KV kvs vs)(k:κ):RelO (a6 kvs k) (valueAt vs k):=by
 unfold KV at r
 induction r with
 |nil=>exact True.intro
 |@cons p q ps a h t c=>
  obtain⟨h1,h2⟩:=h
  by_cases e:p.1=k
  ·have e':q.1=k:=h1.symm.trans e
   have b:valueAt (q::a) k=some q.2:=by simp[valueAt,List.find?_cons,e']
   rw[nM e,b];exact h2
  ·have e':¬q.1=k:=fun z=>e (h1.trans z)
   have b:valueAt (q::a) k=valueAt a k:=by simp[valueAt,List.find?_cons,e']
   rw[nO e,b];exact c
def KV.any{kvs:List (κ×V)}{vs:List (κ×Value)}(r:KV kvs vs)(k:κ):(kvs.any fun kv=>decide (kv.1=k))=vs.any fun kv=>decide (kv.1=k):=by
 unfold KV at r
 induction r with
 |nil=>rfl
 |cons h t ih=>rw[List.any_cons,List.any_cons,ih,h.1]
def KV.repl{kvs:List (κ×V)}{vs:List (κ×Value)}(r:KV kvs vs)(k:κ){y:V}{u:Value}(a:RelV y u):KV (kvs.map fun kv=>if kv.1=k then(kv.1,y) else kv) (vs.map fun kv=>if kv.1=k then(kv.1,u) else kv):=by
 unfold KV at r ⊢
 induction r with
 |nil=>exact .nil
 |@cons p q ps qs h t ih=>
  rw[AE,AE];refine .cons ?_ ih;obtain⟨h1,h2⟩:=h
  by_cases e:p.1=k
  ·rw[if_pos e,if_pos (h1.symm.trans e)];exact⟨h1,a⟩
  ·rw[if_neg e,if_neg (fun z=>e (h1.trans z))];exact⟨h1,h2⟩
def KV.put{kvs:List (κ×V)}{vs:List (κ×Value)}(r:KV kvs vs)(k:κ){y:V}{u:Value}(a:RelV y u):KV (putK kvs k y) (stored vs k u):=by
 unfold putK stored;rw[r.any k]
 by_cases e:(vs.any fun kv=>decide (kv.1=k))=true
 ·rw[if_pos e,if_pos e];exact r.repl k a
 ·rw[if_neg e,if_neg e];exact Paired.snoc r ⟨rfl,a⟩
def KV.drop{kvs:List (κ×V)}{vs:List (κ×Value)}(r:KV kvs vs)(k:κ):KV (jv kvs k) (without vs k):=by
 unfold KV at r ⊢;unfold jv without
 induction r with
 |nil=>exact .nil
 |@cons p q ps qs h t ih=>
  obtain⟨h1,h2⟩:=h;rw[List.filter_cons,List.filter_cons]
  by_cases e:p.1=k
  ·have a:¬decide (p.1≠k)=true:=by simp[e]
   have b:¬decide (q.1≠k)=true:=by simp[h1.symm.trans e]
   rw[if_neg a,if_neg b];exact ih
  ·have e':¬q.1=k:=fun z=>e (h1.trans z)
   have a:decide (p.1≠k)=true:=by simp[e]
   have b:decide (q.1≠k)=true:=by simp[e']
   rw[if_pos a,if_pos b];exact .cons ⟨h1,h2⟩ ih
def KV.length{kvs:List (κ×V)}{vs:List (κ×Value)}(r:KV kvs vs):kvs.length=vs.length:=A7 r
def dropK_le(kvs:List (κ×V))(k:κ):(jv kvs k).length<=kvs.length:=List.length_filter_le _ _
end
def li{P:Program}{w:World}{k:Key}{u:Value}(r:RelV (kV k) u):(zo P w).is k u=true:=by
 cases k with
 |inl i=>obtain⟨t,e⟩:=(show ∃t,u=Value.int i t from r);subst e;exact m_ P w i t
 |inr x=>obtain⟨t,e⟩:=(show ∃t,u=Value.str x t from r);subst e;exact CL P w x t
def xR{P:Program}{w:World}:∀{ks:List Key}{us:List Value},Vals (ks.map kV) us->ItemsAre (zo P w) ks us
 |[],_,r=>by rw[List.map_nil] at r;cases r;exact .nil
 |k::ks,_,r=>by
  rw[AE] at r;cases r with
  |cons h t=>exact .cons (li h) (xR t)
abbrev KT(H:Hp):List (List Key×V)->List (List Key×Addr×Value)->Prop:=Paired fun p q=>p.1=q.1/\H q.2.1=some (.tup (p.1.map kV))/\RelV p.2 q.2.2
def KT.val{H:Hp}{kvs:List (List Key×V)}{xs:List (List Key×Addr×Value)}(r:KT H kvs xs)(k:List Key):RelO (a6 kvs k) ((atKey xs k).map (·.2)):=by
 induction r with
 |nil=>exact True.intro
 |@cons p q ps a h t c=>
  obtain⟨h1,_,h2⟩:=h
  by_cases e:p.1=k
  ·have e':q.1=k:=h1.symm.trans e
   have b:atKey (q::a) k=some q.2:=by simp[atKey,List.find?_cons,e']
   rw[nM e,b];exact h2
  ·have e':¬q.1=k:=fun z=>e (h1.trans z)
   have b:atKey (q::a) k=atKey a k:=by simp[atKey,List.find?_cons,e']
   rw[nO e,b];exact c
def KT.repl{H:Hp}{kvs:List (List Key×V)}{xs:List (List Key×Addr×Value)}(r:KT H kvs xs)(k:List Key){y:V}{u:Value}(b:RelV y u):KT H (kvs.map fun kv=>if kv.1=k then(kv.1,y) else kv) (xs.map (putAt k u)):=by
 induction r with
 |nil=>exact .nil
 |@cons p q ps qs h t ih=>
  rw[AE,AE];refine .cons ?_ ih;obtain⟨h1,h2,a⟩:=h;unfold putAt
  by_cases e:p.1=k
  ·rw[if_pos e,if_pos (h1.symm.trans e)];exact⟨h1,h2,b⟩
  ·rw[if_neg e,if_neg (fun z=>e (h1.trans z))];exact⟨h1,h2,a⟩
def KT.put{H:Hp}{kvs:List (List Key×V)}{xs:List (List Key×Addr×Value)}(r:KT H kvs xs)(k:List Key){b:Addr}{y:V}{u:Value}(hb:H b=some (.tup (k.map kV)))(a:RelV y u):KT H (putK kvs k y) (storedH xs k b u):=by
 have e:(kvs.any fun kv=>decide (kv.1=k))=(atKey xs k).isSome:=by
  rw[ss,(r.val k).isSome_eq,Option.isSome_map]
 unfold putK storedH;rw[e]
 by_cases q:(atKey xs k).isSome=true
 ·rw[if_pos q,if_pos q];exact r.repl k a
 ·rw[if_neg q,if_neg q];exact Paired.snoc r ⟨rfl,hb,a⟩
def KT.keeps{H H':Hp}{kvs:List (List Key×V)}{xs:List (List Key×Addr×Value)}(r:KT H kvs xs)(a:∀b ys,H b=some (.tup ys)->H' b=some (.tup ys)):KT H' kvs xs:=
 Paired.mapP r fun _ _ z=>⟨z.1,a _ _ z.2.1,z.2.2⟩
section
variable{P:Program}{w:World}{H:Hp}{h:Heap}{a:Addr}
def xS{u:HO}(ok:HOk P w H h)(e:Rd H a u):zC P w H h a u:=e.ok ok
def iE{kvs:List (Key×V)}(ok:HOk P w H h)(e:Rd H a (.dK kvs)):kvs.length<=sizeLine/\(a==AU)=false/\∃vs,KV kvs vs/\h.DictOf (zo P w) a vs:=
 show zC P w H h a (.dK kvs) from xS ok e
def sD{kvs:List (Key×V)}(ok:HOk P w H h)(e:H a=some (.dK kvs)):kvs.length<=sizeLine/\(a==AU)=false/\∃vs,KV kvs vs/\h.DictOf (zo P w) a vs:=iE ok (.inl e)
def j_{ks:List Key}(ok:HOk P w H h)(e:H a=some (.tup (ks.map kV))):(tupleKind (zo P w)).is h ks a:=by
 obtain⟨_,b,r,o,h1,h2,n,c⟩:=(show zC P w H h a (.tup (ks.map kV)) from ok a _ e);exact⟨o,b.toArray,n,h1,h2,c,by simpa using xR r⟩
def lj{kvs:List (List Key×V)}(ok:HOk P w H h)(e:Rd H a (.dT kvs)):kvs.length<=sizeLine/\(a==AU)=false/\
  ∃xs,KT H kvs xs/\h.DictOfH (tupleKind (zo P w)) a xs:=by
 obtain⟨z,y,xs,r,o,es,ep,h1,h2,b,c,d⟩:=(show zC P w H h a (.dT kvs) from xS ok e);refine⟨z,y,xs,r,o,es,ep,h1,h2,b,c,fun x hx=>?_,d⟩;have all:∀{l:List (List Key×V)}{m:List (List Key×Addr×Value)},KT H l m->∀x∈m,(tupleKind (zo P w)).is h x.1 x.2.1:=by
  intro l m q
  induction q with
  |nil=>intro x hx;exact nomatch hx
  |@cons p q ps qs hq t ih=>
   intro x hx;rcases List.mem_cons.mp hx with e|hx
   ·subst e
    exact j_ ok (by rw[<-hq.1];exact hq.2.1)
   ·exact ih x hx
 exact all r x hx
def xT{kvs:List (List Key×V)}(ok:HOk P w H h)(e:H a=some (.dT kvs)):kvs.length<=sizeLine/\(a==AU)=false/\
  ∃xs,KT H kvs xs/\h.DictOfH (tupleKind (zo P w)) a xs:=lj ok (.inl e)
end
def DGet(H:Hp)(a:Addr)(y:V)(r:Option V):Prop:=
 (∃kvs k,Rd H a (.dK kvs)/\y=kV k/\r=a6 kvs k)\/∃kvs k b,Rd H a (.dT kvs)/\y=.ref b/\H b=some (.tup (k.map kV))/\r=a6 kvs k
def DPut(H:Hp)(a:Addr)(y v:V)(H':Hp):Prop:=
 (∃kvs k,H a=some (.dK kvs)/\y=kV k/\kvs.length<sizeLine/\H'=upd H a (.dK (putK kvs k v))) \/
 ∃kvs k b,H a=some (.dT kvs)/\y=.ref b/\H b=some (.tup (k.map kV))/\kvs.length<sizeLine/\H'=upd H a (.dT (putK kvs k v))
def DGet.k{H:Hp}{a:Addr}{kvs:List (Key×V)}{k:Key}(e:H a=some (.dK kvs)):DGet H a (kV k) (a6 kvs k):=.inl ⟨kvs,k,.inl e,rfl,rfl⟩
def DGet.t{H:Hp}{a b:Addr}{kvs:List (List Key×V)}{k:List Key}(e:H a=some (.dT kvs))(c:H b=some (.tup (k.map kV))):DGet H a (.ref b) (a6 kvs k):=.inr ⟨kvs,k,b,.inl e,rfl,c,rfl⟩
def DPut.k{H:Hp}{a:Addr}{kvs:List (Key×V)}{k:Key}{v:V}(e:H a=some (.dK kvs))(b:kvs.length<sizeLine):DPut H a (kV k) v (upd H a (.dK (putK kvs k v))):=.inl ⟨kvs,k,e,rfl,b,rfl⟩
def DPut.t{H:Hp}{a b:Addr}{kvs:List (List Key×V)}{k:List Key}{v:V}(e:H a=some (.dT kvs))(c:H b=some (.tup (k.map kV)))(d:kvs.length<sizeLine):DPut H a (.ref b) v (upd H a (.dT (putK kvs k v))):=.inr ⟨kvs,k,b,e,rfl,c,d,rfl⟩
section
variable{X:Cx}{aa:Ψ}{σ:St}{H:Hp}{s:Shared}{a:Addr}{y v:V}{u r:Value}{o:Option V}{A:Around}{E:Ω}
def Inv.big(I:Inv X aa σ H s):AU<s⁻¹:=by
 have h:mainGlobals<s⁻¹:=(I.mod.glob.keeps I.bk).lt;exact Nat.lt_trans ξ h
def DA{Q:Ω}(hu:A.units+1<cLine)(I:Inv X aa σ H s)(g:DGet H a y (some v))(j:RelV y u)(h:∀d s',Inv X aa σ H s'->RelV v d->Q d s'):wpAny (model X.prog X.w) A (getItem (.ref a) u) Q E s:=by
 rcases g with ⟨kvs,k,e,f,l⟩|⟨kvs,k,b,e,f,q,l⟩
 ·subst f
  obtain⟨z,hd,vs,c,dd⟩:=iE I.hok e;obtain⟨d,hw,i⟩:=RelO.some_of (v:=v) (o:=valueAt vs k) (by rw[l];exact c.val k);exact wpAny_getItem_of (li j) dd.mapOf hw (h d _ (I.tok _) i)
 ·subst f
  cases(show u=Value.ref b from j);obtain⟨z,hd,xs,c,dd⟩:=lj I.hok e;obtain⟨d,hw,i⟩:=RelO.some_of (v:=v) (o:=(atKey xs k).map (·.2)) (by rw[l];exact c.val k);obtain⟨p,hp,r⟩:=Option.map_eq_some_iff.mp hw;refine wpAny_getItem_heap (tupleKind_room_in1 hu) (j_ I.hok q) dd hp ?_;rw[r];exact h d _ (I.tok _) i
def ll{h':Heap}{t':Nat}{ob:HO}(I:Inv X aa σ H s)(c:kG (H a))(hs:AR a s.heap h')(he:∃q,h'.get? a=some q)(new:zC X.prog X.w (upd H a ob) h' a ob):Inv X aa σ (upd H a ob) {s with heap:=h',toks:=t'}:=
 I.write (x:=a) (e:=a) c (.inl rfl) (fun b q hb z=>(hs.2 b hb).trans z) he new
def dk_new{P:Program}{w:World}{H':Hp}{h':Heap}{kvs:List (Key×V)}{vs:List (Key×Value)}(z:kvs.length<=sizeLine)(hd:(a==AU)=false)(b:KV kvs vs)(dd:h'.DictOf (zo P w) a vs):zC P w H' h' a (.dK kvs):=⟨z,hd,vs,b,dd⟩
def DB{H':Hp}{Q:Unit->Shared->Prop}(hu:A.units+1<cLine)(I:Inv X aa σ H s)(g:DPut H a y v H')(D:RelV y u)(p:RelV v r)(h:∀s',Inv X aa σ H' s'->Q () s'):wpAny (model X.prog X.w) A (setItem (.ref a) u r) Q E s:=by
 rcases g with ⟨kvs,k,e,j,l,o⟩|⟨kvs,k,b,e,j,x,l,o⟩
 ·subst j o
  obtain⟨z,hd,vs,d,dd⟩:=sD I.hok e;have hz:vs.length<=sizeLine:=by rw[<-d.length];exact z
  have i:(putK kvs k v).length<=sizeLine:=by have:=nP kvs k v;omega
  refine wpAny_setItem_pairs (hsz:=hz) (li D) dd fun h' f hs=>h _ ?_;have he:∃q,h'.get? a=some q:=let ⟨q,_,_,hq,_⟩:=f;⟨q,hq⟩;exact ll I (by rw[e];exact True.intro) hs he (dk_new i hd (d.put k p) f)
 ·subst j o
  cases(show u=Value.ref b from D);obtain⟨z,hd,xs,d,dd⟩:=xT I.hok e;have hz:xs.length<=sizeLine:=by rw[<-A7 d];exact z
  have i:(putK kvs k v).length<=sizeLine:=by have:=nP kvs k v;omega
  refine wpAny_setItem_heap (hsz:=hz) (tupleKind_room_in1 hu) (j_ I.hok x) dd fun h' f hs=>h _ ?_;obtain⟨q,es,ep,hq,h2,F,G,_,J⟩:=f;refine ll I (by rw[e];exact True.intro) hs ⟨q,hq⟩ ⟨i,hd,_,(d.put k x p).keeps fun c ys C=>?_,q,es,ep,hq,h2,F,G,J⟩;rw[zh (e8 C e (fun z=>nomatch z))];exact C
end
section
variable{X:Cx}{aa:Ψ}{σ:St}{H:Hp}{s:Shared}{a:Addr}{kvs:List (Key×V)}{k:Key}{u:Value}{A:Around}{E:Ω}
def DC{v:V}{more:List Value}{Q:Ω}(I:Inv X aa σ H s)(e:H a=some (.dK kvs))(d:RelV (kV k) u)(l:a6 kvs k=some v)(hm:more=[]\/∃x,more=[x])(h:∀c s',Inv X aa σ (upd H a (.dK (jv kvs k))) s'->RelV v c->Q c s'):wpAny (model X.prog X.w) A (call (.builtin "dict.pop") (.ref a::u::more)) Q E s:=by
 obtain⟨z,hd,vs,b,dd⟩:=sD I.hok e;obtain⟨c,hw,g⟩:=RelO.some_of (v:=v) (o:=valueAt vs k) (by rw[<-l];exact b.val k);have hp:(keyPart u).isSome=true:=by
  cases k with
  |inl i=>obtain⟨t,q⟩:=(show ∃t,u=Value.int i t from d);subst q;rfl
  |inr x=>obtain⟨t,q⟩:=(show ∃t,u=Value.str x t from d);subst q;rfl
 have j:argsOk "dict.pop" ⟨.ref a::u::more,[]⟩:=by
  rcases hm with q|⟨x,q⟩
  ·subst q;exact PySem.F.args_dict_pop_2 _ _
  ·subst q;exact PySem.F.args_dict_pop_3 _ _ _
 refine call_meetsIn PySem.F.slot_dict_pop dd.typeIs PySem.F.entry_dict_pop j (meets_dict_pop_there (zo X.prog X.w) a (li d) more hm hp)
  ⟨vs,c,dd,by rw[<-b.length];exact z,hw,fun h' f hs=>h c _ ?_ g⟩
 have he:∃q,h'.get? a=some q:=let ⟨q,_,_,hq,_⟩:=f;⟨q,hq⟩;exact ll I (by rw[e];exact True.intro) hs he (dk_new (AF (dropK_le kvs k) z) hd (b.drop k) f)
end
def ln(i:Expr):Prop:=∀a b,subscripted i false a b=operate [a,b] (getItem a b)
def DD{prog:Program}{w:World}{A:Around}{E:Ω}{s:Shared}{env:Env}{aX slice:Expr}{pos:Pos}{T id:String}{Q:Ω}(g:typeLookup (.type T) "__getitem__"=pure (some (.builtin id)))(hs:ln slice)(h:wpAny (model prog w) A (eval aX env) (fun o c=>wpAny (model prog w) A (eval slice env) (fun i a=>a.TypeIs o T/\wpAny (model prog w) A (getItem o i) Q E a) E c) E s):wpAny (model prog w) A (eval (.Subscript aX slice pos) env) Q E s:=by
 refine Subscript_ (A9 h (fun o c e=>A9 e (fun i a b=>?_) fun _ _ x=>x) fun _ _ x=>x);obtain⟨hT,b⟩:=b;unfold subscriptTail;refine Aa ?_;rw[getitemInPython_of_ne hT.not_modules];refine Aa (wpAny_specialOf hT g ?_);have fin:wpAny (model prog w) A (subscripted slice false o i) (fun r d=>wpAny (model prog w) A (letTemporaryGo aX o r >>= fun _=>pure r) Q E d) E a:=by
  rw[hs o i];exact wpAny_operating (A9 b (fun r d f=>Aa (wpAny_letTemporaryGo (Ac f))) fun _ _ x=>x)
 first
  |exact Ac (Aa fin)
  |exact Aa (Ac (Aa fin))
  |exact Aa fin
def DE{X:Cx}{aa:Ψ}{σ:St}{H:Hp}{s:Shared}{a:Addr}{y:V}{o:Option V}(I:Inv X aa σ H s)(g:DGet H a y o):s.TypeIs (.ref a) "dict":=by
 rcases g with ⟨kvs,k,e,_,_⟩|⟨kvs,k,b,e,_,_,_⟩
 ·obtain⟨_,_,vs,_,dd⟩:=iE I.hok e
  exact dd.typeIs
 ·obtain⟨_,_,xs,_,dd⟩:=lj I.hok e
  exact dd.typeIs
def iF(td ty:TE):TE:=fun σ H Q=>td σ H fun x H1=>ty σ H1 fun y H2=>∃a v,x=.ref a/\DGet H2 a y (some v)/\Q v H2
def DF(td ty tv:TE):TS:=fun D σ H=>tv σ H fun v H1=>td σ H1 fun x H2=>ty σ H2 fun y H3=>∃a b,x=.ref a/\DPut H3 a y v b/\D.nx σ b
section
variable{X:Cx}{o i e aX:Expr}{pos bg gc:Pos}{td ty tv:TE}
def fE(hu:X.A.units+1<cLine)(p:PE X o td)(hi:PE X i ty)(hs:ln i):PE X (.Subscript o i pos) (iF td ty):=by
 intro aa s σ H Q I h;refine DD PySem.F.slot_dict_getitem.lookup hs (aJ (p aa s σ H _ I h) fun u c ⟨x,H1,q,d,e⟩=>aJ (hi aa c σ H1 _ q e) fun w z ⟨y,H2,b,f,a,v,ex,g,j⟩=>?_);subst ex;obtain rfl:u=Value.ref a:=d;exact⟨DE b g,DA hu b g f fun C D r l=>⟨v,H2,r,l,j⟩⟩
def gh(hu:X.A.units+1<cLine)(q:PE X o td)(hi:PE X i ty)(w:PE X aX tv)(hs:swapsWith aX (some (.Subscript o i bg)) pos.line X.env=pure false):PS X (.Assign [.Subscript o i bg] aX pos) (DF td ty tv):=by
 intro aa s σ H D I h;refine wpAny_Assign_Subscript (aJ (w aa s σ H _ I h) fun r b ⟨v,H1,z,c,d⟩=>aJ (q aa b σ H1 _ z d) fun u e ⟨x,H2,C,f,j⟩=>aJ (hi aa e σ H2 _ C j) fun J L ⟨y,H3,E,l,a,F,ex,g,p⟩=>?_) hs;subst ex;obtain rfl:u=Value.ref a:=f;exact DB hu E g l c fun M G=>⟨σ,F,G,p⟩
end
def DG{P:Program}{w:World}{H:Hp}(h:Heap)(hb:AU<h.objs.size):zC P w H (h.push {cls:=.type "dict",data:=.dict #[]}) h.objs.size (.dK []):=
 ⟨AK _,beq_eq_false_iff_ne.mpr (Ne.symm (Ap hb)),[],.nil,Heap.DictOf.new h⟩
def DH{P:Program}{w:World}{H:Hp}(h:Heap)(hb:AU<h.objs.size):zC P w H (h.push {cls:=.type "dict",data:=.dict #[]}) h.objs.size (.dT []):=
 ⟨AK _,beq_eq_false_iff_ne.mpr (Ne.symm (Ap hb)),[],.nil,_,#[],0,Ar _ rfl,⟨rfl,rfl,rfl⟩,rfl,rfl,List.nodup_nil⟩
def DI:TE:=fun _ H Q=>∀p,H p=none->Q (.ref p) (upd H p (.dK []))
def DJ:TE:=fun _ H Q=>∀p,H p=none->Q (.ref p) (upd H p (.dT []))
section
variable{X:Cx}{pos:Pos}
def DK:PE X (.Dict [] [] pos) DI:=fun aa s σ H Q I h=>
 wpAny_Dict_empty ⟨.ref s⁻¹,_,I.laid (a:=s⁻¹) (o:=.dK []) (t':=s.toks) (fun _ _ q=>Ad _ q) (Ah _) (DG s.heap I.big),rfl,h _ (I.hok.fresh (Ah _))⟩
def nQ:PE X (.Dict [] [] pos) DJ:=fun aa s σ H Q I h=>
 wpAny_Dict_empty ⟨.ref s⁻¹,_,I.laid (a:=s⁻¹) (o:=.dT []) (t':=s.toks) (fun _ _ q=>Ad _ q) (Ah _) (DH s.heap I.big),rfl,h _ (I.hok.fresh (Ah _))⟩
end
def DL(kvs more:List (Key×V)):List (Key×V):=more.foldl (fun acc kv=>putK acc kv.1 kv.2) kvs
def KV.merge:∀{more:List (Key×V)}{a:List (Key×Value)}{kvs:List (Key×V)}{vs:List (Key×Value)},KV more a->KV kvs vs->KV (DL kvs more) (merged vs a):=by
 intro more a kvs vs r;unfold KV at r
 induction r generalizing kvs vs with
 |nil=>intro q;exact q
 |@cons p q ps qs h t ih=>
  intro b;have e:KV (putK kvs p.1 p.2) (stored vs q.1 q.2):=by
   have:=b.put p.1 h.2;rw[<-h.1];exact this
  exact ih e
structure M1(X:Cx)(o:Expr)(m:Str)(aU:Pos)(e:Expr)(aA:Pos):Prop where
 base:attributeBase o m X.env (eval o X.env)=eval o X.env
 few:((backTo aA (starEach [e] X.env)).all (fun x=>!x.1)&&(backToKw aA (keywordEach [] X.env)).all (fun x=>x.1.isSome)
  && decide (([e]:List Expr).length+([]:List Keyword).length+(if([]:List Keyword).isEmpty then 0 else 1)<30))=true
 line:(aU.endLine==aA.line)=true
 trees:backTo aA (starEach [e] X.env)=[(false,eval e X.env)]
structure M2(X:Cx)(o:Expr)(m:Str)(aU:Pos)(e f:Expr)(aA:Pos):Prop where
 base:attributeBase o m X.env (eval o X.env)=eval o X.env
 few:((backTo aA (starEach [e,f] X.env)).all (fun x=>!x.1)&&(backToKw aA (keywordEach [] X.env)).all (fun x=>x.1.isSome)
  && decide (([e,f]:List Expr).length+([]:List Keyword).length+(if([]:List Keyword).isEmpty then 0 else 1)<30))=true
 line:(aU.endLine==aA.line)=true
 trees:backTo aA (starEach [e,f] X.env)=[(false,eval e X.env),(false,eval f X.env)]
def IsD(H:Hp)(a:Addr):Prop:=(∃kvs,Rd H a (.dK kvs))\/∃kvs,Rd H a (.dT kvs)
def xU{X:Cx}{aa:Ψ}{σ:St}{H:Hp}{s:Shared}{a:Addr}(I:Inv X aa σ H s)(d:IsD H a):s.TypeIs (.ref a) "dict"/\(∀b,Value.ref a=.ref b->∃ob,s.heap.get? b=some ob/\ob.dict=none)/\(a==AU)=false:=by
 rcases d with ⟨kvs,e⟩|⟨kvs,e⟩
 ·obtain⟨_,hd,vs,_,dd⟩:=iE I.hok e
  refine⟨dd.typeIs,fun b q=>?_,hd⟩;cases q;obtain⟨ob,_,_,h1,h2,_⟩:=dd;exact⟨ob,h1,h2.2.1⟩
 ·obtain⟨_,hd,xs,_,dd⟩:=lj I.hok e
  refine⟨dd.typeIs,fun b q=>?_,hd⟩;cases q;obtain⟨ob,_,_,h1,h2,_⟩:=dd;exact⟨ob,h1,h2.2.1⟩
def DM(td ty:TE):TE:=fun σ H Q=>td σ H fun x H1=>∃a,x=.ref a/\IsD H1 a/\ty σ H1 fun y H2=>∃kvs k v,H2 a=some (.dK kvs)/\y=kV k/\a6 kvs k=some v/\Q v (upd H2 a (.dK (jv kvs k)))
section
variable{X:Cx}{o e f:Expr}{aU aA:Pos}{td ty tx:TE}
def DN(A:PE X o td)(he:PE X e ty)(m:M1 X o "pop" aU e aA):PE X (.Call (.Attribute o "pop" aU) [e] [] aA) (DM td ty):=by
 intro aa s σ H Q I h;refine wpAny_Call_method m.base m.few m.line PySem.F.plainAttrs_dict PySem.F.slot_dict_pop PySem.F.type_dict_pop (aJ (A aa s σ H _ I h) fun u c ⟨x,H1,b,f,a,ex,d,g⟩=>?_);subst ex;obtain rfl:u=Value.ref a:=f;obtain⟨w,z,_⟩:=xU b d;refine⟨w,z,?_⟩;rw[m.trees];refine Calls.callWith_builtin rfl (Calls.evalArgs_plain (Calls.spliced_cons (aJ (he aa c σ H1 _ b g) fun E G ⟨y,H2,C,i,kvs,k,v,j,p,l,q⟩=>Calls.spliced_nil ?_)));subst p;exact DC C j i l (.inl rfl) fun J L D r=>⟨v,_,D,r,q⟩
end
section
variable{X:Cx}{aa:Ψ}{σ:St}{H:Hp}{s:Shared}{a:Addr}{kvs:List (Key×V)}{A:Around}{E:Ω}
def DO{Q:Ω}(I:Inv X aa σ H s)(e:Rd H a (.dK kvs))(h:∀p s',H p=none->Inv X aa σ (upd H p (.dK kvs)) s'->Q (.ref p) s'):wpAny (model X.prog X.w) A (call (.type "dict") [.ref a]) Q E s:=by
 obtain⟨z,hd,vs,c,dd⟩:=iE I.hok e;refine kt_call_dict hd dd (by rw[<-c.length];exact z) fun h' d hs=>?_;refine h _ _ (I.hok.fresh (Ah _)) (I.laid (a:=s⁻¹) (o:=.dK kvs) (t':=s.toks) (fun b q hq=>?_) (Ah _) (dk_new z (beq_eq_false_iff_ne.mpr (Ne.symm (Ap I.big))) c d));exact(hs.2 b (Ap (Ao hq))).trans (Ad _ hq)
end
end L2
namespace Att
open PySem PySem.W PySem.Calls PyProof.Rows
def DP{P:Params}{h:Heap}:∀(ns:List Int)(vs:List Value),WellAll P h vs (ns.map WData.int)->IntsAre vs ns:=by
 intro ns
 induction ns with
 |nil=>
  intro vs w;rw[List.map_nil] at w;cases w;exact .nil
 |cons n ns ih=>
  intro vs w;rw[AE] at w;cases w with
  |cons a b=>
   cases a;exact .cons _ _ (ih _ b)
def DQ{l:OpenLaw}{n:Nat}(o:l.most=some n){P:Params}{h:Heap}{args:List WData}{vals:List Value}(g:l.row.toRowW.claim.pre args=true)(p:WellAll P h vals args):∃a vs ns,vals=[Value.ref a]/\args=[WData.list (ns.map WData.int)]/\h.get? a=some {cls:=.type "list",data:=.seq vs.toArray}/\IntsAre vs ns/\ns.length<=n:=by
 have f:WShape.hasAll [] args [.list .int]=true:=(pre_splitW g).1;have hc:l.pre.holds [] {args:=args}=true:=(pre_splitW g).2;obtain⟨d,r,rfl,h1,h2⟩:=hasAllW_cons f;obtain rfl:=hasAllW_nil h2;obtain⟨xs,rfl,i⟩:=hasW_list h1;obtain⟨ns,rfl⟩:=items_int i;have b:ns.length<=n:=by
  unfold OpenLaw.pre at hc;have c:(WTm.not (.lt (.lit (.int (n:Int))) (.len (.arg 0)))).holds [] {args:=[.list (ns.map .int)]}=true:=by
   have c:=(holds_andW hc).1;rw[o] at c;exact c
  have e:=condW_of c (w_not (w_lt w_lit (w_len_list (w_arg rfl))));rw[Ab] at e;refine Nat.le_of_not_lt fun q=>?_;have j:(n:Int)<((ns.length:Nat):Int):=ω
  first
   |(rw[decide_eq_true j] at e;exact absurd e ξ)
   |(simp at e;omega)
 cases p with
 |cons w1 w2=>
  cases w2;cases w1 with
  |list ho hall=>exact⟨_,_,ns,rfl,rfl,ho,DP ns _ hall,b⟩
def DR(l:OpenLaw)(args:List WData):l.row.toRowW.claim.post args (.bool true) args=true:=
 postW_of (r:=l.row.toRowW) (X:=(true==true))
  (show WShape.has [] (.bool true) .bool=true by first|rfl|decide|simp[WShape.has,WShape.arms,WShape.armsAll])
  (show(WTm.eq .res (.lit (.bool true))).value [] {args:=args,res:=some (.bool true),after:=args}=some (.bool (true==true)) from w_eq_bool (w_res rfl) w_lit) rfl
def xV{l:OpenLaw}{n:Nat}{q:Program}{p:List Str}{s:(Str->Option Value)->Heap->Prop}{u:World->Heap->Prop}{d:DefRec}(J:l.most=some n)(L:d.params.defaults=[])(call:∀(w:World)(s₀ b:Shared)(mg g:Str->Option Value)(fa:Addr)(o:Obj)(h e i:Value)(a:Addr)(vs:List Value)(ns:List Int),
   Ground q p [] s w s₀ mg g b.heap->u w b.heap->
   b.heap.get? fa=some o->o.data=.func (docDef d.name d.params d.body d.scope h e i)->b.heap.CodeRec e d.name->mg d.name=some (.ref fa)->
   b.heap.get? a=some {cls:=.type "list",data:=.seq vs.toArray}->IntsAre vs ns->ns.length<=n->b.gens=#[]->
   codeAny (model l.prog w) callerA (.call (.ref fa) ⟨[.ref a],[]⟩) (fun r s'=>r=.ok (.ret (.bool true))/\OldK b.heap s'.heap/\s'.os=b.os/\AllBare s'.gens) b):
  WalkO q p s u l.row.toRowW d [] (fun f vs=>PySem.call f vs):=by
 intro w s₀ b mg g G Y fa o h e i v kV x hd y j z A args vals as C M N D O;obtain rfl:v=.none:=Dflts.none j L;obtain rfl:kV=.none:=Dflts.noKw j;obtain⟨a,vs,ns,rfl,rfl,E,F,c⟩:=DQ J C D;refine enter_call (Bc (call w s₀ b mg g fa o h e i a vs ns G Y x (fd_plain hd) y z E F c A) fun r s' hq=>?_);obtain⟨rfl,h2,H,I⟩:=hq;exact⟨.inl ⟨.bool true,.bool true,[],rfl,fun _=>rfl,.bool true,DR l _,fun _=>⟨List.Pairwise.nil,fun _ hm=>(nomatch hm)⟩⟩,h2,H,I⟩
section
variable{prog:Program}{w:World}{A:Around}{E:Ω}{s:Shared}{K:Frag}
def ledger(h:Heap)(L d:Addr):Ψ:=(Bb h.objs.size).filterMap fun a=>if a=L\/a=d then none else(h.get? a).map fun o=>(a,o)
end
end Att
namespace L2
open PySem PySem.Spec PyProof.Rows
def sG:∀{vs:List Value}{ns:List Int},IntsAre vs ns->Vals (ns.map V.int) vs
 |_,_,.nil=>.nil
 |_,_,.cons n t h=>.cons ⟨t,rfl⟩ (sG h)
def jw(H:Hp):Prop:=∀b,H b=none\/∃o xs,H b=some (.frz o (.lst xs))
def DS{P:Program}{w:World}{K:Ae}{mg A:Str->Option Value}{CX:dL}{k:Nat}{fa a:Addr}{fd:FuncData}{x:Str}{sp:Sp}{c:Shared}{vs:List Value}{ns:List Int}(M:K.In c.heap)(J:c.heap.Ns mainGlobals mg)(hb:c.heap.Ns builtinsNs A)(Y:∀x:Str,x≠"__name__"->A x=A5 x)(iQ:c.heap.NoLimit)(hg:c.gens=#[])(p:c.heap.get? a=some {cls:=.type "list",data:=.seq vs.toArray})(hi:IntsAre vs ns)(L:ns.length<=sizeLine)(hr:Room k callerA)(F:∀base:Heap,K.In base->base.Ns mainGlobals mg->FnOk P w K mg base CX k fa fd [x] sp)(fh:∀(s:Shared)(u:Value),BindsTo s fd ⟨[u],[]⟩ [(x,u)])(cb:∀H:Hp,jw H->SqL K H a (ns.map V.int)->sp [.ref a] H (fun v _=>v=.bl true) fun _ _ _=>False)(iu:∀H e s',CX [] H c (fun _ _ _=>False) e s'->False):codeAny (model P w) callerA (.call (.ref fa) ⟨[.ref a],[]⟩) (fun r s'=>r=.ok (.ret (.bool true))/\OldK c.heap s'.heap/\s'.os=c.os/\AllBare s'.gens) c:=by
 have E:=sG hi;have T:=hi.length;have g:∀H:Hp,jw H->SqL K H a (ns.map V.int)->HOk P w H c.heap->(∀b,H b≠none->b=a)->(H a≠none->K.lookup a=none)->
   codeAny (model P w) callerA (.call (.ref fa) ⟨[.ref a],[]⟩) (fun r s'=>r=.ok (.ret (.bool true))/\OldK c.heap s'.heap/\s'.os=c.os/\AllBare s'.gens) c:=by
  intro H C N i D O;have G:∀{b:Addr}{o:Obj},c.heap.get? b=some o->H b=none->(bv c.heap H).get? b=some o:=fun e n=>xa e n;have y:∀{b:Addr}{o:Obj}{es:Array DictEntry}{ep:Nat},c.heap.get? b=some o->o.data=.dict es ep->H b=none:=fun{b o es ep} e d=>by
   cases q:H b with
   |none=>rfl
   |some u=>
    have e':b=a:=D b (by rw[q];simp);subst e';rw[p] at e;cases e;have d':Data.seq vs.toArray _=Data.dict es ep:=d;cases d'
  have f:∀{b:Addr}{m:Str->Option Value},c.heap.Ns b m->(bv c.heap H).Ns b m:=fun{b m} ⟨o,es,ep,e,d,r⟩=>⟨o,es,ep,G e (y e d),d,r⟩;have I:K.In (bv c.heap H):=fun b o e=>G (M b o e) (by
   cases q:H b with
   |none=>rfl
   |some u=>
    have e':b=a:=D b (by rw[q];simp);subst e';rw[O (by rw[q];simp)] at e;cases e)
  have U:Mod K mg (bv c.heap H):=⟨I,f J,⟨A,f hb,Y⟩,let ⟨mc,h1,h2⟩:=iQ;⟨mc,f h1,h2⟩⟩;have W:Env0 P w K mg (bv c.heap H) callerA [] c H:=⟨rfl,U,fun b o e=>xb e,Nat.le_of_eq (w_ _ _),trivial,fun b hb=>absurd (show b∈([]:List Addr) from hb) (by simp),i,.of_eq hg⟩;refine Bc ((F _ I (f J)).run callerA [] c H ⟨[.ref a],[]⟩ [.ref a] [.ref a] _ _ hr W (fh c (.ref a)) (.cons rfl .nil) (cb H C N)) fun r s' h=>?_;cases r with
  |error e=>exact(iu H e s' h).elim
  |ok fl=>
   cases fl with
   |next=>exact Be h
   |brk=>exact Be h
   |cont=>exact Be h
   |ret u=>
    obtain⟨v,H',os,j,un,Q,S,q⟩:=h;have X:v=.bl true:=q;subst X;obtain rfl:u=Value.bool true:=S;refine⟨rfl,OldK.of_keep fun b o e=>?_,os,j⟩;cases q:H b with
    |none=>exact un.keep b o e q (by intro z;exact absurd (show b∈([]:List Addr) from z) (by simp)) (by simp)
    |some u=>
     rcases C b with z|⟨ob,xs,z⟩
     ·rw[q] at z;cases z
     ·have z2:=un.frzs b ob _ z
      obtain⟨e1,_⟩:=i b _ z;obtain⟨e2,_⟩:=Q b _ z2;rw[e] at e1;cases e1;exact e2
 cases hk:K.lookup a with
 |some o=>
  have e:=M a o hk;rw[p] at e;cases e;refine g (fun _=>none) (fun _=>.inl rfl) (.inr ⟨_,vs.toArray,_,hk,rfl,rfl,rfl,by rw[Ai,T];exact L,by simpa using E⟩) (fun b u z=>by have l:(none:Option HO)=some u:=z;cases l) (fun b z=>absurd rfl z) fun z=>absurd rfl z
 |none=>
  refine g (fun b=>if b=a then some (.frz {cls:=.type "list",data:=.seq vs.toArray} (.lst (ns.map V.int))) else none) (fun b=>?_) (.inl (.inr ⟨{cls:=.type "list",data:=.seq vs.toArray},if_pos rfl⟩)) (fun b u z=>?_) (fun b z=>?_) fun _=>hk
  ·by_cases hb:b=a
   ·exact .inr ⟨_,_,if_pos hb⟩
   ·exact .inl (if_neg hb)
  ·by_cases hb:b=a
   ·have l:=(if_pos hb).symm.trans z
    cases l;subst hb;exact⟨p,by rw[Ab];exact L,vs,_,E,p⟩
   ·have l:=(if_neg hb).symm.trans z
    cases l
  ·by_cases hb:b=a
   ·exact hb
   ·exact absurd (if_neg hb) z
abbrev xW{K:Ae}{h:Heap}(_:K.In h):Ae:=K
def DT{l:PySem.W.OpenLaw}{n k:Nat}{q:Program}{I:List Str}{Q:(Str->Option Value)->Heap->Prop}{j:World->Heap->Prop}{d:DefRec}{K:Params->Ae}{CX:World->dL}{sp:World->Sp}{x:Str}(J:l.most=some n)(L:n<=sizeLine)(M:d.params.defaults=[])(hr:Room k callerA)(N:∀(w:World)(h:Heap),j w h->(K w.params).In h)(F:∀(w:World)(mg:Str->Option Value)(fa:Addr)(h:Heap),(K w.params).In h->h.Ns mainGlobals mg->mg d.name=some (.ref fa)->
   ∃fd:FuncData,(∀(s:Shared)(u:Value),BindsTo s fd ⟨[u],[]⟩ [(x,u)])/\
    ∀base:Heap,(K w.params).In base->base.Ns mainGlobals mg->FnOk l.prog w (K w.params) mg base (CX w) k fa fd [x] (sp w))
  (O:∀(w:World)(H:Hp)(a:Addr)(ns:List Int),ns.length<=n->jw H->SqL (K w.params) H a (ns.map V.int)->sp w [.ref a] H (fun v _=>v=.bl true) fun _ _ _=>False)
  (P:∀(w:World)(H:Hp)(s:Shared)(e:Value)(s':Shared),CX w [] H s (fun _ _ _=>False) e s'->False) :
  PySem.W.WalkO q I Q j l.row.toRowW d [] (fun f vs=>PySem.call f vs):=by
 refine Att.xV J M fun w s₀ p mg S fa o U X bh a vs ns G Y ho hd bE r y z c A=>?_;have i:=N w _ Y;obtain⟨fd,hb,E⟩:=F w mg fa _ i G.T.g r;exact DS i G.T.g G.T.b G.T.builtins G.T.nolimit A y z (AF c L) hr E hb (fun H C D=>O w H a ns c C D) fun H e s'=>P w H p e s'
end L2
/- THE LAST THEOREM (shape;LID,My.* are yours):
  My.Adr: a structure of lP addresses that your layer names (classes,functions);My.Txt K t: a structure (Prop) of lP equations over K;
  My.txt_mk:{K} {implicit addresses ..} (e1:nsIn K mainGlobals "law"=some (some (.ref f))) (e2:K.lookup f=some ⟨oc,od,.func (fnOf "law" "law" bD body scope dV kV bh pm an aq ct),sl⟩) (e3:codeIn K aq "law"=true) ..:∃t,My.Txt K t
set_option maxRecDepth 100000 in
set_option maxHeartbeats 0 in
theorem PySem.Challenge.cw_LID_holds:PySem.Challenge.rw_LID.Holds := by
 w_on;o_law;k_head;(case hw=>w_witness2)
 k_fill
 refine L2.DT (l:=PySem.Challenge.rw_LID) (n:=63) (k:=40) (x:="script") (CX:=fun w=>..) (sp:=fun _=>My.sp_law) rfl ξ rfl ⟨rfl,ξ,ξ⟩ (fun w h Y=>PySem.W.kIn_of Y) ?F ?S ?C
 case F=>
  intro w mg fa h f G g;have T:∃t,My.Txt (L2.xW f) t:=by
   dsimp only[L2.xW]                          -- K must cG as «<heap const> w.params» for k_is
   refine' My.txt_mk ?e1 ?e2 ?e3 ..
   (case e1 => PySem.W.k_is)                    -- in e aI: a name -> ag address -> ag object -> ag parts
   (case e2=>PySem.W.k_is)
   ..
  obtain⟨t,T⟩:=T;have i:=g.symm.trans (PySem.W.mg_of f G T.law);cases i                                       -- fa is e law's own address
  exact⟨_,fun s u => .of_eq rfl,fun base c d => My.law_fn T c d⟩     -- if «.of_eq rfl» comes too early: refine' ⟨_,?b,fun base c d => My.law_fn T c d⟩;exact fun s u => .of_eq rfl
 case S=>exact fun w H a ns j o p=>..
 case C=>exact ..
(e tactic k_is has q namespace: write k_is) -/
namespace L2
open PySem PySem.Spec PyProof.Rows
def zbJ(s:Stmt):Arguments:=match s with
 |.FunctionDef _ a _ _ _ _ _ _ _ _=>a
 |_=>{posonlyargs:=[],args:=[],vararg:=none,kwonlyargs:=[],kw_defaults:=[],kwarg:=none,defaults:=[]}
def zL(s:Stmt):List Stmt:=match s with
 |.FunctionDef _ _ b _ _ _ _ _ _ _=>b
 |_=>[]
def ze(s:Stmt):Scope:=match s with
 |.FunctionDef _ _ _ _ _ _ sc _ _ _=>sc
 |_=>{kind:=.function,names:=[],isGenerator:=false,isCoroutine:=false}
abbrev aC:dL:=fun _ _ _ _ _ _=>False
abbrev E0:XK:=fun _ _ _=>False
def ao{X:Cx}:cL aC X E0:=fun _ _ _ _ _ _ _ h=>h.elim
structure Fun(K:Ae)(x ah:Str)(st:Stmt)(f:Addr)(fd:FuncData):Prop where
 ex:∃(oc:Value)(od:Option Addr)(kV bh pm:Value)(an:Option Addr)(aq ct:Value)(cC:Array (Option Value)),
  fd=PySem.W.fnOf x ah (zbJ st) (zL st) (ze st) .none kV bh pm an aq ct/\K.lookup f=some ⟨oc,od,.func fd,cC⟩/\PySem.W.codeIn K aq ah=true
 kp:PySem.W.keepIn K (.ref f)=true
section
variable{P:Program}{w:World}{K:Ae}{mg:Str->Option Value}{base:Heap}
def Fun.ok{x b:Str}{st:Stmt}{f:Addr}{fd:FuncData}{N ps:List Str}{k:Nat}{sp:Sp}(F:Fun K x b st f fd)(S:zw N ps (ze st))(len:∀vs H Q E,sp vs H Q E->vs.length=ps.length)(e:∀(a:Value)(A:Around)(outer:List Env)(s:Shared)(H:Hp)(vs:List V)(Q:VK)(E:XK),Room k (A.deeper (envOfC b (ze st) s⁻¹ f a))->sp vs H Q E->
   ∃t,PSs (a0 aC P w K mg base N b (ze st) f a A outer s H E).nox (zL st) t/\t {nx:=fun _ H'=>Q .non H',rt:=Q} (start N vs) H):FnOk P w K mg base aC (k+1) f fd ps sp:=by
 obtain⟨g,i,kV,j,l,o,a,ct,p,rfl,lk,d⟩:=F.ex;refine rx lk d S len fun A outer s H vs Q E hr c=>?_;obtain⟨t,h,q⟩:=e a A outer s H vs Q E hr c;exact⟨t,h.nox,q⟩
def Fun.binds{x e:Str}{st:Stmt}{f:Addr}{fd:FuncData}{ps:List Str}(F:Fun K x e st f fd)(h:∀(kV a b:Value)(c:Option Addr)(d ct:Value)(us:List Value),us.length=ps.length->bindArgs (PySem.W.fnOf x e (zbJ st) (zL st) (ze st) .none kV a b c d ct) ⟨us,[]⟩=pure (ps.zip us)):Binds K fd ps []:=by
 obtain⟨g,i,kV,a,b,c,d,ct,j,rfl,lk,l⟩:=F.ex;exact .all (h kV a b c d ct)
def DV{x a:Str}{st:Stmt}{f:Addr}{i:Value}{j g:Option Addr}{h:Array (Option Value)}{kV d e b ct:Value}(l:K.lookup f=some ⟨i,j,.func (PySem.W.fnOf x a (zbJ st) (zL st) (ze st) .none kV d e g b ct),h⟩)(c:PySem.W.codeIn K b a=true)(k:PySem.W.keepIn K (.ref f)=true):Fun K x a st f (PySem.W.fnOf x a (zbJ st) (zL st) (ze st) .none kV d e g b ct):=⟨⟨i,j,kV,d,e,g,b,ct,h,rfl,l,c⟩,k⟩
end
def ey{A:Around}{k:Nat}(hr:Room k A):A.units+1<cLine:=Nat.lt_of_le_of_lt (Nat.add_le_add_left (by decide:1<=64) _) hr.units
def a7{n:Nat}(h:n<=1000):n<sizeLine:=Nat.lt_of_le_of_lt h ξ
section
variable{X:Cx}
def pv(i:Nat){x:Str}{pos:Pos}(a:X.N[i]?=some x:=by rfl)(b:kH X.env.scope x:=by first|exact Or.inl rfl|exact Or.inr (Or.inl rfl)|exact Or.inr (Or.inr rfl))(hd:(x==("__debug__":Str))=false:=by decide)
  (c:(x==("__classdict__":Str))=false:=by decide):PE X (.Name x pos) (aw i):=CN a b hd c
end
def aB{A B:Prop}(h:B):if false=true then A else B:=by
 rw[if_neg Au];exact h
def aT{A B:Prop}(h:A):if true=true then A else B:=by
 rw[if_pos rfl];exact h
def bR{c A B:Prop}[Decidable c](h1:c->A)(h2:¬c->B):if c then A else B:=by
 by_cases h:c
 ·rw[if_pos h]
  exact h1 h
 ·rw[if_neg h]
  exact h2 h
def Same(H H':Hp):Prop:=∀b o,H b=some o->H' b=some o
def Same.refl(H:Hp):Same H H:=fun _ _ h=>h
def Same.trans{H H1 H2:Hp}(a:Same H H1)(b:Same H1 H2):Same H H2:=fun c o h=>b c o (a c o h)
def Same.free{H H':Hp}(e:Same H H'){l:Addr}(h:H' l=Option.none):H l=Option.none:=by
 cases q:H l with
 |none=>rfl
 |some o=>
  rw[e l o q] at h;cases h
def Same.seq{K:Ae}{H H':Hp}{a:Addr}{xs:List V}(e:Same H H')(h:SqL K H a xs):SqL K H' a xs:=by
 rcases h with (h|⟨o,h⟩)|h
 ·exact .inl (.inl (e _ _ h))
 ·exact .inl (.inr ⟨o,e _ _ h⟩)
 ·exact .inr h
end L2
end
section
namespace Tim
open PySem PyProof.Rows
def R(ρ:Keyed->Int)(xs:Array Keyed)(i:Nat):Int:=match xs[i]? with
 |some p=>ρ p
 |none=>0
def lv{ρ:Keyed->Int}{xs ys:Array Keyed}{i j:Nat}(h:xs[i]?=ys[j]?):R ρ xs i=R ρ ys j:=by unfold R;rw[h]
def cN{ρ:Keyed->Int}{xs:Array Keyed}{i:Nat}{p:Keyed}(h:xs[i]?=some p):R ρ xs i=ρ p:=by unfold R;rw[h]
def aF(ρ:Keyed->Int)(xs:Array Keyed)(lo hi:Nat):Prop:=∀i j,lo<=i->i<=j->j<hi->R ρ xs i<=R ρ xs j
def fi(ρ:Keyed->Int)(xs:Array Keyed)(lo hi:Nat):Prop:=∀i j,lo<=i->i<=j->j<hi->R ρ xs j<=R ρ xs i
def zQ{ρ:Keyed->Int}{xs:Array Keyed}{i j:Nat}(a:j<=xs.size)(k:Nat):R ρ (mirror xs i j ((j-i) / 2)) k=if i<=k/\k<j then R ρ xs (i+j-1-k) else R ρ xs k:=by
 have e:=getElem?_mirror_all (i:=i) a k
 by_cases h1:i<=k/\k<j
 ·rw[if_pos h1] at e ⊢;exact lv e
 ·rw[if_neg h1] at e ⊢;exact lv e
def zp{ρ:Keyed->Int}{xs:Array Keyed}{i j:Nat}(b:j<=xs.size)(a:∀k,i<=k->k<j->R ρ xs k=R ρ xs (j-1))(k:Nat):R ρ (mirror xs i j ((j-i) / 2)) k=R ρ xs k:=by
 rw[zQ b];split
 ·rw[a _ ω ω,a k ω ω]
 ·rfl
def iH{ρ:Keyed->Int}{xs:Array Keyed}{src d:Nat}(hs:src<xs.size)(hd:d<=src)(k:Nat):R ρ (bubble xs src d) k=if k=src-d then R ρ xs src else if src-d<k/\k<=src then R ρ xs (k-1) else R ρ xs k:=by
 have e:=getElem?_bubble hs d hd k
 by_cases h1:k=src-d
 ·rw[if_pos h1] at e ⊢;exact lv e
 ·rw[if_neg h1] at e ⊢
  by_cases h2:src-d<k/\k<=src
  ·rw[if_pos h2] at e ⊢;exact lv e
  ·rw[if_neg h2] at e ⊢;exact lv e
structure dB(prog:Program)(w:World)(A:Around)(s:Shared)(κ:SortKind)(a₀:Array Keyed)(ρ:Keyed->Int):Prop where
 lt:∀x y,x∈a₀.toList->y∈a₀.toList->∀(Q:Bool->Shared->Prop)(E:Ω),Q (decide (ρ x<ρ y)) s->wpAny (model prog w) A (keyLt' κ x.1 y.1) Q E s
structure B(κ:SortKind)(a₀:Array Keyed)(st:SortSt):Prop where
 perm:(arrOf st).Perm a₀
 kind:kindOf st=κ
 failed:failedOf st=none
def B.size{κ:SortKind}{a₀:Array Keyed}{st:SortSt}(h:B κ a₀ st):(arrOf st).size=a₀.size:=h.perm.size_eq
def B.setArr{κ:SortKind}{a₀:Array Keyed}{st:SortSt}(h:B κ a₀ st){xs:Array Keyed}(hp:xs.Perm (arrOf st)):B κ a₀ (setArr st xs):=⟨hp.trans h.perm,h.kind,h.failed⟩
def B.mem{κ:SortKind}{a₀:Array Keyed}{st:SortSt}(h:B κ a₀ st){p:Keyed}(hp:p∈(arrOf st).toList):p∈a₀.toList:=(Array.perm_iff_toList_perm.mp h.perm).mem_iff.mp hp
def xX{xs:Array Keyed}{i:Nat}(hi:i<xs.size):∃p,xs[i]?=some p/\p∈xs.toList:=⟨xs[i],getElem?_pos _ i hi,by simp⟩
structure Pre(lo:Nat)(st af:SortSt):Prop where
 arr:∀k,k<lo->(arrOf af)[k]?=(arrOf st)[k]?
 pend:AZ af=AZ st
def Pre.refl{lo:Nat}{st:SortSt}:Pre lo st st:=⟨fun _ _=>rfl,rfl⟩
def Pre.trans{lo:Nat}{a b c:SortSt}(x:Pre lo a b)(y:Pre lo b c):Pre lo a c:=⟨fun k h=>(y.arr k h).trans (x.arr k h),y.pend.trans x.pend⟩
def Pre.mir{lo i j:Nat}{st:SortSt}(a:j<=(arrOf st).size)(hi:lo<=i):Pre lo st (setArr st (mirror (arrOf st) i j ((j-i) / 2))):=
 ⟨fun k h=>by show(mirror _ _ _ _)[k]?=_;rw[getElem?_mirror_all a,if_neg ω],rfl⟩
def Pre.bub{lo src d:Nat}{st:SortSt}(hs:src<(arrOf st).size)(hd:d<=src)(a:lo<=src-d):Pre lo st (setArr st (bubble (arrOf st) src d)):=
 ⟨fun k h=>by show(bubble _ _ _)[k]?=_;rw[getElem?_bubble hs d hd,if_neg ω,if_neg ω],rfl⟩
section
variable{prog:Program}{w:World}{A:Around}{E:Ω}{s:Shared}{κ:SortKind}{a₀:Array Keyed}{ρ:Keyed->Int}
def DW(C:dB prog w A s κ a₀ ρ){st:SortSt}(a:B κ a₀ st){x y:Keyed}(hx:x∈a₀.toList)(hy:y∈a₀.toList){Q:Option Bool->SortSt->Prop}(h:Q (some (decide (ρ x<ρ y))) st):wpS (model prog w) A E s (lt' x y) Q st:=by
 rw[lt'_eq];refine wpS_bind (wpS_get ?_);rw[a.kind];refine wpS_bind (wpS_lift (wpAny_attempt (C.lt x y hx hy _ _ ⟨rfl,?_⟩)));exact wpS_pure h
def xY{st:SortSt}{xs:Array Keyed}{i:Nat}{p:Keyed}(h:xs[i]?=some p){Q:Keyed->SortSt->Prop}(hq:Q p st):wpS (model prog w) A E s (elem' xs i) Q st:=by
 rw[elem'_eq,h];exact wpS_pure hq
def gX(C:dB prog w A s κ a₀ ρ){st:SortSt}(a:B κ a₀ st){i j:Nat}(hi:i<a₀.size)(d:j<a₀.size){Q:Option Bool->SortSt->Prop}(h:Q (some (decide (R ρ (arrOf st) i<R ρ (arrOf st) j))) st):wpS (model prog w) A E s (ltAt' i j) Q st:=by
 obtain⟨p,e1,b⟩:=xX (xs:=arrOf st) (i:=i) (by rw[a.size];exact hi);obtain⟨q,e2,c⟩:=xX (xs:=arrOf st) (i:=j) (by rw[a.size];exact d);rw[ltAt'_eq];refine wpS_bind (wpS_get ?_);show wpS _ _ _ _ (do let x <-elem' (arrOf st) i;let y <-elem' (arrOf st) j;lt' x y) Q st;refine wpS_bind (xY e1 (wpS_bind (xY e2 (DW C a (a.mem b) (a.mem c) ?_))));rw[cN e1,cN e2] at h;exact h
def asc(lo a b:Nat):StateT SortSt Sem AscSt:=
 forIn [a:b] ((none,a):AscSt) fun _ __s=>do
  let __x <-ltAt' (lo+__s.snd) (lo+__s.snd-1)
  match __x with
  |some smaller=>if smaller=true then pure (ForInStep.done (none,__s.snd)) else pure (ForInStep.yield (none,__s.snd+1))
  |_=>pure (ForInStep.done (some none,__s.snd))
def jx(lo n a:Nat):StateT SortSt Sem (Option Nat):=do
 reverseSlice' lo (lo+n)
 let __s <-asc lo n a
 match __s.fst with
 |some r=>pure r
 |none=>pure (some __s.snd)
def ka(lo n a:Nat):StateT SortSt Sem DescSt:=
 forIn [n:a] ((none,n,0):DescSt) fun _ __s=>do
  let __x <-ltAt' (lo+__s.snd.fst) (lo+__s.snd.fst-1)
  match __x with
  |some smaller=>
   if smaller=true then
    if __s.snd.snd>0 then do
     reverseSlice' (lo+__s.snd.fst-(__s.snd.snd+1)) (lo+__s.snd.fst)
     pure (ForInStep.yield (none,__s.snd.fst+1,0))
    else pure (ForInStep.yield (none,__s.snd.fst+1,0))
   else do
    let __x <-ltAt' (lo+__s.snd.fst-1) (lo+__s.snd.fst)
    match __x with
    |some larger=>
     if larger=true then pure (ForInStep.done (none,__s.snd.fst,__s.snd.snd))
     else pure (ForInStep.yield (none,__s.snd.fst+1,__s.snd.snd+1))
    |_=>pure (ForInStep.done (some none,__s.snd.fst,__s.snd.snd))
  |_=>pure (ForInStep.done (some none,__s.snd.fst,__s.snd.snd))
def jy(lo n a:Nat):StateT SortSt Sem (Option Nat):=do
 liftM (rule "list.sort.descending-run")
 let __s <-ka lo (n+1) a
 match __s.fst with
 |some r=>pure r
 |none=>
  if __s.snd.snd>0 then do
   reverseSlice' (lo+__s.snd.fst-(__s.snd.snd+1)) (lo+__s.snd.fst)
   jx lo __s.snd.fst a
  else jx lo __s.snd.fst a
def aZ{b c:Type}{m:StateT SortSt Sem b}{f g:b->StateT SortSt Sem c}(h:∀a,f a=g a):(m >>= f)=(m >>= g):=by
 have e:f=g:=funext h;rw[e]
def xZ(lo d:Nat):countRun' lo d=(do
  let __s <-asc lo 1 d
  match __s.fst with
  |some r=>pure r
  |none=>
   if(__s.snd==d)=true then pure (some __s.snd)
   else if __s.snd>1 then do
    let __x <-ltAt' lo (lo+__s.snd-1)
    match __x with
    |some rose=>if rose=true then pure (some __s.snd) else do
      reverseSlice' lo (lo+__s.snd)
      jy lo __s.snd d
    |_=>pure none
   else jy lo __s.snd d):=by
 rw[countRun'_eq];unfold jy jx ka asc;refine aZ fun g=>?_;obtain⟨r,n⟩:=g;cases r with
 |some r=>rfl
 |none=>
  dsimp only;split
  ·rfl
  ·split
   ·refine aZ fun x=>?_
    cases x with
    |none=>rfl
    |some rose=>
     dsimp only;split
     ·rfl
     ·refine aZ fun _r=>aZ fun _u=>aZ fun e=>?_
      obtain⟨c,n2,h⟩:=e;cases c with
      |some c=>rfl
      |none=>
       dsimp only;split
       ·refine aZ fun _v=>aZ fun _w=>aZ fun a=>?_
        obtain⟨b,f⟩:=a;cases b<;>rfl
       ·refine aZ fun _w=>aZ fun a=>?_
        obtain⟨b,f⟩:=a;cases b<;>rfl
   ·refine aZ fun _u=>aZ fun e=>?_
    obtain⟨c,n2,h⟩:=e;cases c with
    |some c=>rfl
    |none=>
     dsimp only;split
     ·refine aZ fun _v=>aZ fun _w=>aZ fun a=>?_
      obtain⟨b,f⟩:=a;cases b<;>rfl
     ·refine aZ fun _w=>aZ fun a=>?_
      obtain⟨b,f⟩:=a;cases b<;>rfl
def nR(C:dB prog w A s κ a₀ ρ){st:SortSt}{lo a d:Nat}{Q:AscSt->SortSt->Prop}(D:lo+d<=a₀.size)(F:1<=a)(u:a<=d)(v:B κ a₀ st)(hs:aF ρ (arrOf st) lo (lo+a))(h:∀n,a<=n->n<=d->aF ρ (arrOf st) lo (lo+n)->(n=d\/R ρ (arrOf st) (lo+n)<R ρ (arrOf st) (lo+n-1))->Q (none,n) st):wpS (model prog w) A E s (asc lo a d) Q st:=by
 unfold asc;refine wpS_forRange (I:=fun x c f=>f=st/\c=(none,x)/\aF ρ (arrOf st) lo (lo+x)) ?step ?fin ⟨rfl,rfl,hs⟩
 case fin=>
  rintro c f ⟨rfl,rfl,e⟩;rw[show max a d=d from ω] at e ⊢;exact h d u (Ah _) e (.inl rfl)
 case step=>
  rintro x c f r z ⟨rfl,rfl,e⟩;dsimp only;refine wpS_bind (gX C v ω ω ?_)
  by_cases b:R ρ (arrOf f) (lo+x)<R ρ (arrOf f) (lo+x-1)
  ·simp only[b,decide_true,if_true]
   exact wpS_pure (h x r ω e (.inr b))
  ·simp only[b,decide_false,Aj,if_false]
   refine wpS_pure ⟨rfl,rfl,fun i j q g y=>?_⟩
   by_cases o:j<lo+x
   ·exact e i j q g o
   ·have l:j=lo+x:=ω
    subst l
    by_cases p:i=lo+x
    ·subst p;exact Bk _
    ·exact Int.le_trans (e i (lo+x-1) q ω ω) (Int.not_lt.mp b)
def iI{st:SortSt}{i j:Nat}{Q:Unit->SortSt->Prop}(h:Q () (setArr st (mirror (arrOf st) i j ((j-i) / 2)))):wpS (model prog w) A E s (reverseSlice' i j) Q st:=by
 rw[reverseSlice'_eq];exact wpS_modify h
abbrev Got(κ:SortKind)(a₀:Array Keyed)(ρ:Keyed->Int)(lo ak:Nat)(st:SortSt)(Q:Option Nat->SortSt->Prop):Prop:=
 ∀m af,B κ a₀ af->Pre lo st af->1<=m->m<=ak->aF ρ (arrOf af) lo (lo+m)->Q (some m) af
def x0(C:dB prog w A s κ a₀ ρ){st e:SortSt}{lo n a:Nat}{Q:Option Nat->SortSt->Prop}(o:lo+a<=a₀.size)(h1:1<=n)(c:n<=a)(f:B κ a₀ st)(p:Pre lo e st)(hs:fi ρ (arrOf st) lo (lo+n))(h:Got κ a₀ ρ lo a e Q):wpS (model prog w) A E s (jx lo n a) Q st:=by
 unfold jx;have hsz:lo+n<=(arrOf st).size:=by rw[f.size];omega
 refine wpS_bind (iI ?_);have d:B κ a₀ (setArr st (mirror (arrOf st) lo (lo+n) ((lo+n-lo) / 2))):=f.setArr (mirror_perm _ _ _ _);refine wpS_bind (nR C o h1 c d ?_ fun m q g b _=>wpS_pure (h m _ d (p.trans (.mir hsz (Ah _))) ω g b));intro i j r l u;show R ρ (mirror (arrOf st) lo (lo+n) ((lo+n-lo) / 2)) i<=R ρ (mirror (arrOf st) lo (lo+n) ((lo+n-lo) / 2)) j;rw[zQ hsz,zQ hsz,if_pos ω,if_pos ω];exact hs _ _ ω ω ω
def DX(C:dB prog w A s κ a₀ ρ){st F:SortSt}{lo n u:Nat}{Q:DescSt->SortSt->Prop}(P:lo+u<=a₀.size)(h1:1<=n)(G:n<=u)(M:B κ a₀ st)(N:Pre lo F st)(hs:fi ρ (arrOf st) lo (lo+n))(h:∀m e a,B κ a₀ a->Pre lo F a->n<=m->m<=u->fi ρ (arrOf a) lo (lo+m)->e+1<=m->(∀i,lo+m-(e+1)<=i->i<lo+m->R ρ (arrOf a) i=R ρ (arrOf a) (lo+m-1))->Q (none,m,e) a):wpS (model prog w) A E s (ka lo n u) Q st:=by
 unfold ka;refine wpS_forRange (I:=fun x c a=>∃e,c=(none,x,e)/\B κ a₀ a/\Pre lo F a/\fi ρ (arrOf a) lo (lo+x)/\e+1<=x/\
   (∀i,lo+x-(e+1)<=i->i<lo+x->R ρ (arrOf a) i=R ρ (arrOf a) (lo+x-1))) ?step ?fin ⟨0,rfl,M,N,hs,ω,fun i h1 h2=>by congr 1;omega⟩
 case fin=>
  rintro c a ⟨e,rfl,g,z,l,hq,he⟩;rw[show max n u=u from ω] at l hq he ⊢;exact h u e a g z G (Ah _) l hq he
 case step=>
  rintro x c a L O ⟨e,rfl,g,z,l,hq,he⟩;dsimp only;have hsz:lo+x<=(arrOf a).size:=by rw[g.size];omega
  refine wpS_bind (gX C g ω ω ?_)
  by_cases d:R ρ (arrOf a) (lo+x)<R ρ (arrOf a) (lo+x-1)
  ·simp only[d,decide_true,if_true]
   have f:∀xs:Array Keyed,(∀k,R ρ xs k=R ρ (arrOf a) k)->fi ρ xs lo (lo+(x+1)):=by
    intro xs hk i j D q J;rw[hk,hk]
    by_cases v:j<lo+x
    ·exact l i j D q v
    ·have r:j=lo+x:=ω
     subst r
     by_cases y:i=lo+x
     ·subst y;exact Bk _
     ·exact Int.le_trans (Int.le_of_lt d) (l i (lo+x-1) D ω ω)
   by_cases p:e>0
   ·rw[if_pos p]
    refine wpS_bind (iI (wpS_pure ⟨0,rfl,g.setArr (mirror_perm _ _ _ _),z.trans (.mir hsz ω),f _ (zp hsz he),ω,fun i h1 h2=>by congr 1;omega⟩))
   ·rw[if_neg p]
    exact wpS_pure ⟨0,rfl,g,z,f _ (fun _=>rfl),ω,fun i h1 h2=>by congr 1;omega⟩
  ·simp only[d,decide_false,Aj,if_false]
   refine wpS_bind (gX C g ω ω ?_)
   by_cases b:R ρ (arrOf a) (lo+x-1)<R ρ (arrOf a) (lo+x)
   ·simp only[b,decide_true,if_true]
    exact wpS_pure (h x e a g z L ω l hq he)
   ·simp only[b,decide_false,Aj,if_false]
    have o:R ρ (arrOf a) (lo+x)=R ρ (arrOf a) (lo+x-1):=ω
    refine wpS_pure ⟨e+1,rfl,g,z,fun i j D q J=>?_,ω,fun i h1 h2=>?_⟩
    ·by_cases v:j<lo+x
     ·exact l i j D q v
     ·have r:j=lo+x:=ω
      subst r
      by_cases y:i=lo+x
      ·subst y;exact Bk _
      ·rw[o];exact l i (lo+x-1) D ω ω
    ·rw[show lo+(x+1)-1=lo+x from ω]
     by_cases H:i=lo+x
     ·subst H;rfl
     ·rw[o];exact he i ω ω
def x4(C:dB prog w A s κ a₀ ρ){st q:SortSt}{lo n b:Nat}{Q:Option Nat->SortSt->Prop}(f:lo+b<=a₀.size)(g:n+1<=b)(x:B κ a₀ st)(y:Pre lo q st)(hs:fi ρ (arrOf st) lo (lo+(n+1)))(h:Got κ a₀ ρ lo b q Q):wpS (model prog w) A E s (jy lo n b) Q st:=by
 unfold jy;refine wpS_bind (wpS_lift (wpAny_rule ⟨rfl,?_⟩));refine wpS_bind (DX C f ω g x y hs fun m r c d l z o p hq he=>?_);dsimp only;have hsz:lo+m<=(arrOf c).size:=by rw[d.size];omega
 by_cases a:r>0
 ·rw[if_pos a]
  refine wpS_bind (iI (x0 C f ω o (d.setArr (mirror_perm _ _ _ _)) (l.trans (.mir hsz ω)) ?_ h));intro i j u e v;show R ρ (mirror (arrOf c) _ _ _) j<=R ρ (mirror (arrOf c) _ _ _) i;rw[zp hsz he,zp hsz he];exact p i j u e v
 ·rw[if_neg a]
  exact x0 C f ω o d l p h
def DY(C:dB prog w A s κ a₀ ρ){st:SortSt}{lo p:Nat}{Q:Option Nat->SortSt->Prop}(y:lo+p<=a₀.size)(h1:1<=p)(c:B κ a₀ st)(h:Got κ a₀ ρ lo p st Q):wpS (model prog w) A E s (countRun' lo p) Q st:=by
 rw[xZ];refine wpS_bind (nR C y (Ah 1) h1 c (fun i j f g D=>by have:i=j:=ω;subst this;exact Bk _) fun n F G r H=>?_);dsimp only
 by_cases d:n=p
 ·rw[if_pos (by simpa using d)]
  exact wpS_pure (h n st c .refl F G r)
 ·rw[if_neg (by simpa using d)]
  have l:R ρ (arrOf st) (lo+n)<R ρ (arrOf st) (lo+n-1):=H.resolve_left d
  by_cases q:n>1
  ·rw[if_pos q]
   refine wpS_bind (gX C c ω ω ?_)
   by_cases b:R ρ (arrOf st) lo<R ρ (arrOf st) (lo+n-1)
   ·simp only[b,decide_true,if_true]
    exact wpS_pure (h n st c .refl F G r)
   ·simp only[b,decide_false,Aj,if_false]
    have hsz:lo+n<=(arrOf st).size:=by rw[c.size];omega
    have a:∀k,lo<=k->k<lo+n->R ρ (arrOf st) k=R ρ (arrOf st) (lo+n-1):=by
     intro k f hk;have I:=r lo k ω f hk;have J:=r k (lo+n-1) f ω ω;omega
    refine wpS_bind (iI (x4 C y ω (c.setArr (mirror_perm _ _ _ _)) (.mir hsz (Ah _)) ?_ h));intro i j f g D;show R ρ (mirror (arrOf st) _ _ _) j<=R ρ (mirror (arrOf st) _ _ _) i;rw[zp hsz a,zp hsz a]
    by_cases z:j<lo+n
    ·rw[a i ω ω,a j ω z];exact Bk _
    ·have u:j=lo+n:=ω
     subst u
     by_cases e:i=lo+n
     ·subst e;exact Bk _
     ·rw[a i ω ω];exact Int.le_of_lt l
  ·rw[if_neg q]
   have o:n=1:=ω
   subst o;refine x4 C y ω c .refl ?_ h;intro i j f g D
   by_cases e:i=j
   ·subst e;exact Bk _
   ·have v:i=lo:=ω
    have x:j=lo+1:=ω
    subst v;subst x;exact Int.le_of_lt l
def DZ(C:dB prog w A s κ a₀ ρ){st:SortSt}{lo n ok:Nat}{Q:Bool->SortSt->Prop}(S:lo+n<=a₀.size)(J:ok<=n)(L:B κ a₀ st)(hs:aF ρ (arrOf st) lo (lo+ok))(h:∀a,B κ a₀ a->Pre lo st a->aF ρ (arrOf a) lo (lo+n)->Q true a):wpS (model prog w) A E s (binarySort' lo n ok) Q st:=by
 rw[binarySort'_eq];refine wpS_bind (wpS_mono (wpS_forRange (I:=fun k c a=>c=(none,())/\B κ a₀ a/\Pre lo st a/\aF ρ (arrOf a) lo (lo+min k n))
  (Q:=fun c a=>c=(none,())/\B κ a₀ a/\Pre lo st a/\aF ρ (arrOf a) lo (lo+n)) ?step ?fin ?init) ?post)
 case post=>
  rintro c a ⟨rfl,f,q,e⟩;exact wpS_pure (h a f q e)
 case init=>
  refine⟨rfl,L,.refl,fun i j z p D=>?_⟩
  by_cases h1:ok=0
  ·have:i=j:=ω
   subst this;exact Bk _
  ·exact hs i j z p ω
 case fin=>
  rintro c a ⟨hc,f,q,e⟩;refine⟨hc,f,q,?_⟩
  rwa [show min (max (max ok 1) n) n=n from ω] at e
 case step=>
  rintro k c a M N ⟨rfl,f,q,e⟩;rw[show min k n=k from ω] at e;have hk:lo+k<a₀.size:=ω
  refine wpS_bind (wpS_mono (wpS_forRange (I:=fun x c d=>d=a/\∃l r,c=(none,l,r)/\l<=r/\r<=k/\r-l<=k-x/\
    (∀i,i<l->R ρ (arrOf a) (lo+i)<=R ρ (arrOf a) (lo+k))/\(∀i,r<=i->i<k->R ρ (arrOf a) (lo+k)<R ρ (arrOf a) (lo+i)))
   (Q:=fun c d=>d=a/\∃l r,c=(none,l,r)/\l<=k/\
    (∀i,i<l->R ρ (arrOf a) (lo+i)<=R ρ (arrOf a) (lo+k))/\(∀i,l<=i->i<k->R ρ (arrOf a) (lo+k)<R ρ (arrOf a) (lo+i))) ?istep ?ifin ?iinit) ?ipost)
  case iinit=>exact⟨rfl,0,k,rfl,ω,ω,ω,fun i hi=>ω,fun i h1 h2=>ω⟩
  case ifin=>
   rintro c d ⟨rfl,l,r,rfl,F,v,hm,g,o⟩;have:l=r:=ω
   subst this;exact⟨rfl,l,l,rfl,v,g,o⟩
  case istep=>
   rintro x c d _ O ⟨rfl,l,r,rfl,F,v,hm,g,o⟩;dsimp only
   by_cases u:l ≥ r
   ·rw[if_pos u]
    have:l=r:=ω
    subst this;exact wpS_pure ⟨rfl,l,l,rfl,v,g,o⟩
   ·rw[if_neg u]
    refine wpS_bind (gX C f hk ω ?_)
    by_cases b:R ρ (arrOf d) (lo+k)<R ρ (arrOf d) (lo+(l+r) / 2)
    ·simp only[b,decide_true,if_true]
     refine wpS_pure ⟨rfl,l,(l+r) / 2,rfl,ω,ω,ω,g,fun i h1 h2=>?_⟩;exact Int.lt_of_lt_of_le b (e _ _ ω ω ω)
    ·simp only[b,decide_false,Aj,if_false]
     refine wpS_pure ⟨rfl,(l+r) / 2+1,r,rfl,ω,ω,ω,fun i h1=>?_,o⟩;exact Int.le_trans (e (lo+i) (lo+(l+r) / 2) ω ω ω) (Int.not_lt.mp b)
  case ipost=>
   rintro c d ⟨rfl,l,r,rfl,P,g,o⟩;show wpS _ _ _ _ (do moveDown' (lo+k) (lo+l);pure (ForInStep.yield (none,()))) _ _;rw[moveDown'_eq];have y:lo+k<(arrOf d).size:=by rw[f.size];exact hk
   refine wpS_bind (wpS_modify (wpS_pure ⟨rfl,f.setArr (bubble_perm _ _ _),q.trans (.bub y ω ω),?_⟩));rw[show min (k+1) n=k+1 from ω];intro i j z p D;show R ρ (bubble (arrOf d) (lo+k) (lo+k-(lo+l))) i<=R ρ (bubble (arrOf d) (lo+k) (lo+k-(lo+l))) j;rw[iH y ω,iH y ω,show lo+k-(lo+k-(lo+l))=lo+l from ω];have G:∀i,lo<=i->i<lo+l->R ρ (arrOf d) i<=R ρ (arrOf d) (lo+k):=fun i h1 h2=>by
    have:=g (i-lo) ω;rwa [show lo+(i-lo)=i from ω] at this
   have H:∀i,lo+l<=i->i<lo+k->R ρ (arrOf d) (lo+k)<R ρ (arrOf d) i:=fun i h1 h2=>by
    have:=o (i-lo) ω ω;rwa [show lo+(i-lo)=i from ω] at this
   repeat' split
   all_goals first
    |(exfalso;omega)
    |exact Bk _
    |exact G _ ω ω
    |exact Int.le_of_lt (H _ ω ω)
    |exact e _ _ ω ω ω
def D4(C:dB prog w A s κ a₀ ρ){st:SortSt}{Q:Unit->SortSt->Prop}(F:B κ a₀ st)(hp:AZ st=#[])(h1:1<=a₀.size)(r:a₀.size<64)(h:∀a,B κ a₀ a->aF ρ (arrOf a) 0 a₀.size->Q () a):wpS (model prog w) A E s sortRuns' Q st:=by
 rw[sortRuns'_eq];refine wpS_bind (wpS_get ?_);dsimp only;have N:minRun' a₀.size a₀.size 0=a₀.size:=by
  obtain⟨f,hf⟩:∃f,a₀.size=f+1:=⟨a₀.size-1,ω⟩;have:minRun' (f+1) a₀.size 0=a₀.size:=by rw[minRun'_succ,if_pos r];rfl
  rwa [<-hf] at this
 simp only[F.size,N];refine wpS_bind (wpS_mono (wpS_forRange
  (I:=fun x c a=>(x=0/\c=(none,0)/\B κ a₀ a/\AZ a=#[])\/(1<=x/\c=(none,a₀.size)/\B κ a₀ a/\(AZ a).size<=1/\aF ρ (arrOf a) 0 a₀.size))
  (Q:=fun c a=>c=(none,a₀.size)/\B κ a₀ a/\(AZ a).size<=1/\aF ρ (arrOf a) 0 a₀.size) ?step ?fin (.inl ⟨rfl,rfl,F,hp⟩)) ?post)
 case fin=>
  rintro c a (⟨hx,_,_⟩|⟨_,hc,l⟩)
  ·omega
  ·exact⟨hc,l⟩
 case step=>
  rintro x c a _ hx (⟨rfl,rfl,o,y⟩|⟨P,rfl,l⟩)
  ·dsimp only
   rw[if_neg ω];simp only[Nat.sub_zero,Nat.min_self];refine wpS_bind (DY C ω ω o fun m i u P2 O G j=>?_);dsimp only;have tl:∀d,B κ a₀ d->AZ d=#[]->aF ρ (arrOf d) 0 a₀.size->B κ a₀ (setPending d ((AZ d).push (0,a₀.size,0)))/\(AZ (setPending d ((AZ d).push (0,a₀.size,0)))).size<=1/\aF ρ (arrOf (setPending d ((AZ d).push (0,a₀.size,0)))) 0 a₀.size:=
    fun d b p q=>⟨⟨b.perm,b.kind,b.failed⟩,by show((AZ d).push _).size<=1;rw[p];exact Ah 1,q⟩
   by_cases g:m<a₀.size
   ·rw[if_pos g]
    refine wpS_bind (wpS_lift (wpAny_rule ⟨rfl,?_⟩));refine wpS_bind (DZ C ω G u j fun d H P3 v=>?_);simp only[Bf,Aj,if_false];refine wpS_bind (wpS_get ?_);have z:AZ d=#[]:=by rw[P3.pend,P2.pend];exact y
    have hb:(AZ d).back?=none:=by rw[z];rfl
    rw[hb];dsimp only;simp only[Nat.zero_add] at v ⊢;exact wpS_bind (wpS_modify (wpS_pure (.inr ⟨ω,rfl,tl d H z v⟩)))
   ·rw[if_neg g]
    have hm:m=a₀.size:=ω
    subst hm;refine wpS_bind (wpS_get ?_);have D:AZ i=#[]:=by rw[P2.pend];exact y
    have hb:(AZ i).back?=none:=by rw[D];rfl
    rw[hb];dsimp only;simp only[Nat.zero_add] at j ⊢;exact wpS_bind (wpS_modify (wpS_pure (.inr ⟨ω,rfl,tl i u D j⟩)))
  ·dsimp only
   rw[if_pos (Ah _)];exact wpS_pure ⟨rfl,l⟩
 case post=>
  rintro c a ⟨rfl,o,L,M⟩;dsimp only;refine wpS_bind (wpS_mono (wpS_forRange (I:=fun _ c e=>e=a/\c=(none,())) (Q:=fun c e=>e=a/\c=(none,())) ?_ (fun _ _ J=>J) ⟨rfl,rfl⟩) ?_)
  ·rintro x c e _ _ ⟨rfl,rfl⟩
   refine wpS_bind (wpS_get ?_);rw[if_pos L];exact wpS_pure ⟨rfl,rfl⟩
  ·rintro c e ⟨rfl,rfl⟩
   exact wpS_pure (h _ o M)
end
end Tim
end
section
namespace aF
open PySem PyProof.Rows HT
def lA:∀a:List Int,lexLt a a=false
 |[]=>rfl
 |x::a=>by rw[zv,if_pos rfl];exact lA a
def kb:∀{a b c:List Int},lexLt a b=true->lexLt b c=true->lexLt a c=true
 |[],[],_,h,_=>by cases h
 |[],_::_,[],_,h=>by cases h
 |[],_::_,_::_,_,_=>rfl
 |_::_,[],_,h,_=>by cases h
 |_::_,_::_,[],_,h=>by cases h
 |x::a,y::b,z::c,h1,h2=>by
  rw[zv] at h1 h2 ⊢
  by_cases e1:x=y
  ·rw[if_pos e1] at h1
   by_cases e2:y=z
   ·rw[if_pos e2] at h2
    rw[if_pos (e1.trans e2)];exact kb h1 h2
   ·rw[if_neg e2] at h2
    rw[if_neg ω];have:=of_decide_eq_true h2;exact decide_eq_true ω
  ·rw[if_neg e1] at h1
   have d:=of_decide_eq_true h1
   by_cases e2:y=z
   ·rw[if_neg ω]
    exact decide_eq_true ω
   ·rw[if_neg e2] at h2
    have e:=of_decide_eq_true h2;rw[if_neg ω];exact decide_eq_true ω
def x5:∀{a b:List Int},lexLt a b=false->lexLt b a=false->a=b
 |[],[],_,_=>rfl
 |[],_::_,h,_=>by cases h
 |_::_,[],_,h=>by cases h
 |x::a,y::b,h1,h2=>by
  rw[zv] at h1 h2
  by_cases e:x=y
  ·subst e
   rw[if_pos rfl] at h1 h2;rw[x5 h1 h2]
  ·rw[if_neg e] at h1
   rw[if_neg (Ne.symm e)] at h2;have:=of_decide_eq_false h1;have:=of_decide_eq_false h2;omega
def rk(ls:Ξ)(l:List Int):Int:=((ls.filter fun m=>lexLt m l).length:Nat)
def nT{ls:Ξ}{l m:List Int}(f:l∈ls)(hm:m∈ls):decide (rk ls l<rk ls m)=lexLt l m:=by
 have mono:∀{a b:List Int},(∀x,lexLt x a=true->lexLt x b=true)->∀k:Ξ,(k.filter fun x=>lexLt x a).length<=(k.filter fun x=>lexLt x b).length:=by
  intro a b c k
  induction k with
  |nil=>exact Ah _
  |cons x k ih=>
   rw[List.filter_cons,List.filter_cons]
   by_cases q:lexLt x a=true
   ·rw[if_pos q,if_pos (c x q),Aw,Aw];omega
   ·rw[if_neg q]
    split
    ·rw[Aw];omega
    ·exact ih
 have d:∀{a b:List Int},(∀x,lexLt x a=true->lexLt x b=true)->lexLt a b=true->∀k:Ξ,a∈k->(k.filter fun x=>lexLt x a).length<(k.filter fun x=>lexLt x b).length:=by
  intro a b c h k
  induction k with
  |nil=>intro q;cases q
  |cons x k ih=>
   intro hk;rw[List.filter_cons,List.filter_cons];rcases List.mem_cons.mp hk with e|e
   ·subst e
    rw[if_neg (by rw[lA];exact Au),if_pos h,Aw];have:=mono c k;omega
   ·have:=ih e
    by_cases q:lexLt x a=true
    ·rw[if_pos q,if_pos (c x q),Aw,Aw];omega
    ·rw[if_neg q]
     split
     ·rw[Aw];omega
     ·exact this
 unfold rk;cases q:lexLt l m with
 |true=>
  have:=d (a:=l) (b:=m) (fun x hx=>kb hx q) q ls f;exact decide_eq_true ω
 |false=>
  have:=mono (a:=m) (b:=l) (fun x hx=>by
   cases z:lexLt x l with
   |true=>rfl
   |false=>
    cases z2:lexLt l x with
    |true=>rw[kb z2 hx] at q;cases q
    |false=>rw[x5 z z2] at hx;rw[hx] at q;cases q) ls
  exact decide_eq_false ω
structure By(prog:Program)(w:World)(A:Around)(good:Heap->Prop)(us:List Value)(ls:Ξ):Prop where
 len:us.length=ls.length
 fn:∀(i j:Nat) u l m,us[i]?=some u->us[j]?=some u->ls[i]?=some l->ls[j]?=some m->l=m
 ask:2<=us.length->∃κ:SortKind,(∀(s:Shared)(Q:SortKind->Shared->Prop)(E:Ω),good s.heap->Q κ s->wpAny (model prog w) A (keyKind' us.toArray) Q E s)/\
  ∀(i j:Nat) u v l m,us[i]?=some u->us[j]?=some v->ls[i]?=some l->ls[j]?=some m->∀(s:Shared)(Q:Bool->Shared->Prop)(E:Ω),good s.heap->Q (lexLt l m) s->wpAny (model prog w) A (keyLt' κ u v) Q E s
open Classical in
noncomputable def fF(us:List Value)(ls:Ξ)(u:Value):List Int:=if h:∃l,∃i:Nat,us[i]?=some u/\ls[i]?=some l then h.choose else []
def gY{us:List Value}{ls:Ξ}(fn:∀(i j:Nat) u l m,us[i]?=some u->us[j]?=some u->ls[i]?=some l->ls[j]?=some m->l=m){i:Nat}{u:Value}{l:List Int}(h1:us[i]?=some u)(h2:ls[i]?=some l):fF us ls u=l:=by
 unfold fF;have h:∃l,∃i:Nat,us[i]?=some u/\ls[i]?=some l:=⟨l,i,h1,h2⟩;rw[dif_pos h];obtain⟨j,e1,e2⟩:=h.choose_spec;exact fn j i u _ l e1 h1 e2 h2
noncomputable def fG(us:List Value)(ls:Ξ)(p:Keyed):Int:=rk ls (fF us ls p.1)
section
variable{prog:Program}{w:World}{A:Around}{E:Ω}{s:Shared}{good:Heap->Prop}{us vs:List Value}{ls:Ξ}
def jz(h:us.length=vs.length){p:Keyed}(hp:p∈(us.toArray.zip vs.toArray).toList):∃i:Nat,us[i]?=some p.1/\vs[i]?=some p.2:=by
 have e:(us.toArray.zip vs.toArray).toList=us.zip vs:=by simp
 rw[e] at hp;obtain⟨i,hi,e2⟩:=List.mem_iff_getElem.mp hp;rw[List.getElem_zip] at e2;rw[List.length_zip] at hi;refine⟨i,?_,?_⟩
 ·rw[Af ω,<-e2]
 ·rw[Af ω,<-e2]
def D6(B:By prog w A good us ls)(d:us.length=vs.length)(f:good s.heap){κ:SortKind}(h2:2<=us.length)(g:us.length<64)(hk:∀(i j:Nat) u v l m,us[i]?=some u->us[j]?=some v->ls[i]?=some l->ls[j]?=some m->∀(s:Shared)(Q:Bool->Shared->Prop)(E:Ω),good s.heap->Q (lexLt l m) s->wpAny (model prog w) A (keyLt' κ u v) Q E s){Q:Unit->SortSt->Prop}(h:∀a,(arrOf a).Perm (us.toArray.zip vs.toArray)->failedOf a=none->Tim.aF (fG us ls) (arrOf a) 0 vs.length->Q () a):wpS (model prog w) A E s sortRuns' Q (SortSt.mk' κ (us.toArray.zip vs.toArray) #[] 7 none):=by
 have hz:(us.toArray.zip vs.toArray).size=vs.length:=by simp;omega
 refine Tim.D4 (κ:=κ) (a₀:=us.toArray.zip vs.toArray) (ρ:=fG us ls) ⟨fun x y hx hy o p hq=>?_⟩ ⟨Array.Perm.refl _,rfl,rfl⟩ rfl (by rw[hz];omega) (by rw[hz];omega) fun a b e=>h a b.perm b.failed (by rw[<-hz];exact e);obtain⟨i,e1,_⟩:=jz d hx;obtain⟨j,e2,_⟩:=jz d hy;have hi:i<ls.length:=by rw[<-B.len];exact(List.getElem?_eq_some_iff.mp e1).1
 have c:j<ls.length:=by rw[<-B.len];exact(List.getElem?_eq_some_iff.mp e2).1
 have f1:ls[i]?=some ls[i]:=Af hi;have f2:ls[j]?=some ls[j]:=Af c;refine hk i j _ _ _ _ e1 e2 f1 f2 s o p f ?_;unfold fG at hq;rw[gY B.fn e1 f1,gY B.fn e2 f2,nT (A1 hi) (A1 c)] at hq;exact hq
def aW{a b:Type}:∀(l:List a)(m:List b)(i:Nat),(l.zip m)[i]?=(l[i]?).bind fun x=>(m[i]?).map fun y=>(x,y)
 |[],m,i=>by simp
 |x::l,[],i=>by cases h:(x::l)[i]?<;>simp
 |x::l,y::m,0=>rfl
 |x::l,y::m,i+1=>by
  rw[List.zip_cons_cons,List.getElem?_cons_succ,List.getElem?_cons_succ,List.getElem?_cons_succ];exact aW l m i
def D8(B:By prog w A good us ls)(r:us.length=vs.length){xs:Array Keyed}(hp:xs.Perm (us.toArray.zip vs.toArray))(hs:Tim.aF (fG us ls) xs 0 vs.length):∃ps:List (List Int×Value),ps.Perm (ls.zip vs)/\xs.toList.map (·.2)=ps.map (·.2)/\ps.Pairwise fun(a b:List Int×Value)=>HT.lexLt b.1 a.1=false:=by
 have f:xs.toList.Perm (us.zip vs):=by
  have:=Array.perm_iff_toList_perm.mp hp
  simpa using this
 refine⟨xs.toList.map fun p=>(fF us ls p.1,p.2),?_,by rw[Am];rfl,?_⟩
 ·have e:(us.zip vs).map (fun p:Keyed=>(fF us ls p.1,p.2))=ls.zip vs:=by
   apply List.ext_getElem?;intro i;rw[Ak,aW,aW];cases e1:us[i]? with
   |none=>
    have:ls[i]?=none:=List.getElem?_eq_none (by rw[<-B.len];exact List.getElem?_eq_none_iff.mp e1);rw[this];rfl
   |some u=>
    have hi:i<ls.length:=by rw[<-B.len];exact(List.getElem?_eq_some_iff.mp e1).1
    have f1:ls[i]?=some ls[i]:=Af hi;rw[f1];cases e2:vs[i]? with
    |none=>rfl
    |some v=>
     show some (fF us ls u,v)=some (ls[i],v);rw[gY B.fn e1 f1]
  rw[<-e];exact f.map _
 ·rw[AW,List.pairwise_iff_getElem]
  intro i j hi o g;have hsz:xs.size=vs.length:=by
   have:=f.length_eq;rw[AQ,List.length_zip] at this;omega
  rw[AQ] at hi o;have q:=hs i j (AK _) (Nat.le_of_lt g) ω;have s:xs[i]?=some xs[i]:=getElem?_pos xs i hi;have x:xs[j]?=some xs[j]:=getElem?_pos xs j o;rw[Tim.cN s,Tim.cN x] at q;simp only[Array.getElem_toList];obtain⟨h,g1,_⟩:=jz r (p:=xs[i]) (by
   have:=f.mem_iff.mp (show xs[i]∈xs.toList by simp)
   simpa using this)
  obtain⟨l,g2,_⟩:=jz r (p:=xs[j]) (by
   have:=f.mem_iff.mp (show xs[j]∈xs.toList by simp)
   simpa using this)
  have c:h<ls.length:=by rw[<-B.len];exact(List.getElem?_eq_some_iff.mp g1).1
  have d:l<ls.length:=by rw[<-B.len];exact(List.getElem?_eq_some_iff.mp g2).1
  have f1:ls[h]?=some ls[h]:=Af c;have f2:ls[l]?=some ls[l]:=Af d;unfold fG at q;rw[gY B.fn g1 f1,gY B.fn g2 f2] at q ⊢;have:=nT (ls:=ls) (A1 d) (A1 c);rw[<-this];exact decide_eq_false ω
end
end aF
end
section
namespace aF
open PySem PyProof.Rows PySem.W
section
variable{prog:Program}{w:World}{A:Around}{E:Ω}{s:Shared}{good:Heap->Prop}{us vs:List Value}{ls:Ξ}
def x6{ns:List Int}(hi:IntsAre us ns):By prog w A (fun _=>True) us (ns.map fun n=>[n]):=by
 have b:=hi.length;have a:∀(i:Nat) u l,us[i]?=some u->(ns.map fun n=>[n])[i]?=some l->∃n t,u=.int n t/\l=[n]:=fun i u l h1 h2=>by
  obtain⟨t,e⟩:=IntsAre.int_at hi i u h1;rw[Ak] at h2;cases e2:ns[i]? with
  |none=>rw[e2] at h2;cases h2
  |some n=>
   rw[e2] at h2;have e3:ns.getD i 0=n:=by rw[AL,e2];rfl
   rw[e3] at e;exact⟨n,t,e,(Al h2).symm⟩
 refine⟨by rw[Ab,b],fun i j u l m h1 h2 d f=>?_,fun h2=>⟨oneType',fun s Q E _ hq=>?_,fun i j u v l m h1 h2 d f s Q E _ hq=>?_⟩⟩
 ·obtain⟨n,t,e1,rfl⟩:=a i u l h1 d
  obtain⟨c,t',e2,rfl⟩:=a j u m h2 f;rw[e1] at e2;cases e2
  rfl
 ·match us,hi,h2 with
  |[],_,h2=>simp at h2
  |[_],_,h2=>simp at h2
  |v₁::v₂::rest,hi,_=>
   rw[keyKind_ints hi];exact Ac hq
 ·obtain⟨n,t,rfl,rfl⟩:=a i u l h1 d
  obtain⟨c,t',rfl,rfl⟩:=a j v m h2 f;refine kat_lt_int ?_;have:HT.lexLt [n] [c]=decide (n<c):=by
   rw[HT.zv]
   by_cases e:n=c
   ·rw[if_pos e,HT.xz];exact(decide_eq_false ω).symm
   ·rw[if_neg e]
  rw[this] at hq;exact hq
def IsPr(h:Heap)(u:Value)(l:List Int):Prop:=∃(a b:Addr)(n:Int)(t:Tok)(c:List Value)(ps:List Int),u=.ref a/\l=n::ps/\IsTup h a #[.int n t,.ref b]/\IsTup h b c.toArray/\IntsAre c ps
def IsTup.inj{h:Heap}{a:Addr}{xs ys:Array Value}(h1:IsTup h a xs)(h2:IsTup h a ys):xs=ys:=by
 obtain⟨o,e,_,n,d⟩:=h1;obtain⟨o',e',_,b,d'⟩:=h2;rw[e] at e';cases e';rw[d] at d';injection d'
def IntsAre.inj{vs:List Value}{ns a:List Int}(h:IntsAre vs ns)(g:IntsAre vs a):ns=a:=by
 induction h generalizing a with
 |nil=>cases g;rfl
 |cons n t h ih=>cases g with|cons _ _ h'=>rw[ih h']
def IsPr.inj{h:Heap}{u:Value}{l m:List Int}(h1:IsPr h u l)(h2:IsPr h u m):l=m:=by
 obtain⟨a,b,n,t,c,ps,rfl,rfl,d,f,i1⟩:=h1;obtain⟨o,p,q,t',its',r,e,rfl,g,i,j⟩:=h2;cases e;have:=aF.IsTup.inj d g;cases this;have e2:=aF.IsTup.inj f i;have e3:c=its':=by simpa using e2
 subst e3;rw[IntsAre.inj i1 j]
def D9{x y:Value}{l m:List Int}{Q:Bool->Shared->Prop}(h1:IsPr s.heap x l)(h2:IsPr s.heap y m)(hu:A.units<cLine)(hq:Q (HT.lexLt l m) s):wpAny (model prog w) A (keyLt' (tuples' true) x y) Q E s:=by
 obtain⟨a,b,n,t,J,ps,rfl,rfl,H,u,i1⟩:=h1;obtain⟨L,v,g,t',its',C,rfl,rfl,I,D,F⟩:=h2;obtain⟨o,e,hc,k,d⟩:=id H;obtain⟨o',e',M,N,d'⟩:=id I;refine kat_lt e d e' d' ?_;show KatLex prog w A true (decide (2<2)) Q [(.int n t,.int g t'),(.ref b,.ref v)] 0 s;rw[HT.zv] at hq;refine kat_cons (A9 (SeqAt.EqAt.int_int n t g t' prog w (fun _ _=>False) _ ⟨rfl,rfl⟩:wpAny (model prog w) A (eqBool (.int n t) (.int g t')) (fun e s'=>e=(n==g)/\s'=s) (fun _ _=>False) s) (fun e1 j he=>?_) fun _ _ z=>z);obtain⟨rfl,rfl⟩:=he
 by_cases p:n=g
 ·have r:(n==g)=true:=by simpa using p
  rw[r];rw[if_pos p] at hq;refine kat_yes (kat_cons ?_);have G:∀{c:Addr}{cs:List Value}{i:List Int},IsTup j.heap c cs.toArray->IntsAre cs i->AJ (L2.zo prog w) j.heap (i.map Sum.inl) c:=fun{c cs i} hc hi=>by
   obtain⟨o,e,q,k,d⟩:=hc;refine⟨o,cs.toArray,k,e,q,d,?_⟩;have:∀{cs:List Value}{i:List Int},IntsAre cs i->ItemsAre (L2.zo prog w) (i.map Sum.inl) cs:=by
    intro cs i hi
    induction hi with
    |nil=>exact .nil
    |cons n t h ih=>exact .cons (L2.m_ prog w n t) ih
   simpa using this hi
  refine wpAny_eqBool_tuple (knd:=L2.zo prog w) hu (G u i1) (G D F) ?_
  by_cases ep:ps=C
  ·subst ep
   rw[decide_eq_true rfl];rw[lA] at hq;exact kat_yes (kat_nil hq)
  ·have:¬(ps.map Sum.inl:List L2.Key)=C.map Sum.inl:=fun z=>ep (List.map_inj_right (f:=(Sum.inl:Int->L2.Key)) (fun x y h=>Sum.inl.inj h)|>.mp z)
   rw[decide_eq_false this];refine kat_no ?_;show wpAny (model prog w) A (oneLt' false (.ref b) (.ref v)) Q (fun _ _=>False) j;exact kat_one _ _ (HT.xC u D (by simpa using i1) (by simpa using F) hu hq)
 ·have r:(n==g)=false:=by simpa using p
  rw[r];rw[if_neg p] at hq;refine kat_no ?_;show wpAny (model prog w) A (oneLt' true (.int n t) (.int g t')) Q (fun _ _=>False) j;exact oneLt_int hq
def x8{h:Heap}:∀{us:List Value}{ls:Ξ},us.length=ls.length->(∀(i:Nat) u l,us[i]?=some u->ls[i]?=some l->IsPr h u l)->∃fs,KatTups h us fs/\fs.length=us.length/\∀f∈fs,∃n t,f=Value.int n t
 |[],[],_,_=>⟨[],.nil,rfl,fun f hf=>nomatch hf⟩
 |u::us,l::ls,hl,hp=>by
  obtain⟨fs,c,g,j⟩:=x8 (us:=us) (ls:=ls) (by simpa using hl) fun i u l h1 h2=>hp (i+1) u l (by simpa using h1) (by simpa using h2);obtain⟨a,b,n,t,q,ps,rfl,rfl,p,r,i1⟩:=hp 0 u l rfl rfl;obtain⟨o,e,hc,k,d⟩:=id p;refine⟨.int n t::fs,.cons e hc d rfl c,by simp[g],fun f hf=>?_⟩;rcases List.mem_cons.mp hf with rfl|hf
  ·exact⟨n,t,rfl⟩
  ·exact j f hf
 |[],_::_,h,_=>by simp at h
 |_::_,[],h,_=>by simp at h
def x9(e:us.length=ls.length)(hu:A.units<cLine)(p:∃h,good h)(hp:∀h,good h->∀(i:Nat) u l,us[i]?=some u->ls[i]?=some l->IsPr h u l):By prog w A good us ls:=by
 refine⟨e,fun i j u l m h1 h2 b c=>?_,fun h2=>⟨tuples' true,fun s Q E a hq=>?_,fun i j u v l m h1 h2 b c s Q E a hq=>?_⟩⟩
 ·obtain⟨h,d⟩:=p
  exact(hp h d i u l h1 b).inj (hp h d j u m h2 c)
 ·obtain⟨fs,g,q,o⟩:=x8 e (hp _ a)
  refine kat_kind (T:=.type "int") g ω (fun f hf=>?_) ξ hq;obtain⟨n,t,rfl⟩:=o f hf;exact Looks.of_pure rfl
 ·exact D9 (hp _ a i u l h1 b) (hp _ a j v m h2 c) hu hq
end
def Out(ls:Ξ)(vs c:List Value):Prop:=∃ps:List (List Int×Value),ps.Perm (ls.zip vs)/\c=ps.map (·.2)/\ps.Pairwise fun(a b:List Int×Value)=>HT.lexLt b.1 a.1=false
section
variable{prog:Program}{w:World}{A:Around}{E:Ω}{s:Shared}{good:Heap->Prop}{us vs:List Value}{ls:Ξ}
def x_(a:ls.length=vs.length)(hu:us.length=vs.length)(h2:vs.length<2):Out ls vs ((us.toArray.zip vs.toArray).map (·.2)).toList:=by
 have e:((us.toArray.zip vs.toArray).map (·.2)).toList=vs:=by
  rw[Array.toList_map,show(us.toArray.zip vs.toArray).toList=us.zip vs by simp,List.map_snd_zip ω]
 rw[e];refine⟨ls.zip vs,List.Perm.refl _,by rw[List.map_snd_zip ω],?_⟩;have hz:(ls.zip vs).length<2:=by rw[List.length_zip];omega
 match ls.zip vs,hz with
 |[],_=>exact List.Pairwise.nil
 |[x],_=>simp
 |_::_::_,h=>simp only[Aw] at h;omega
def ya(B:By prog w A good us ls)(c:us.length=vs.length)(j:vs.length<64)(i:good s.heap){P:PySem.Fin->Shared->Prop}{G:Unit×SortSt->Sem PySem.Fin}(h:∀a,Out ls vs ((arrOf a).map (·.2)).toList->(arrOf a).size=vs.length->failedOf a=none->wpAny (model prog w) A (G (PUnit.unit,a)) P E s):wpAny (model prog w) A (if vs.toArray.size<2 then(pure general' >>= fun kind=>(if vs.toArray.size<2 then pure () else sortRuns').run (SortSt.mk' kind (us.toArray.zip vs.toArray) #[] 7 none) >>= G)
   else(keyKind' us.toArray >>= fun kind=>(if vs.toArray.size<2 then pure () else sortRuns').run (SortSt.mk' kind (us.toArray.zip vs.toArray) #[] 7 none) >>= G)) P E s:=by
 have b:(us.toArray.zip vs.toArray).size=vs.length:=by rw[Array.size_zip,Ai,Ai];omega
 by_cases h2:vs.toArray.size<2
 ·rw[if_pos h2]
  refine Aa (Ac ?_);rw[if_pos h2];rw[StateT.run_pure];refine Aa (Ac ?_)
  try dsimp only
  rw[Ai] at h2;exact h (SortSt.mk' general' (us.toArray.zip vs.toArray) #[] 7 none) (x_ (by rw[<-B.len];exact c) c h2) b rfl
 ·rw[if_neg h2,if_neg h2]
  rw[Ai] at h2;obtain⟨κ,k1,k2⟩:=B.ask ω;refine Aa (k1 s _ E i ?_);refine Aa (A9 (D6 (Q:=fun _ a=>(arrOf a).Perm (us.toArray.zip vs.toArray)/\failedOf a=none/\Tim.aF (fG us ls) (arrOf a) 0 vs.length) B c i ω ω k2 fun a d f g=>⟨d,f,g⟩) ?_ fun _ _ e=>e);rintro⟨⟨⟩,a⟩ s' ⟨rfl,hp,hf,hs⟩
  try dsimp only
  exact h a (by
   obtain⟨ps,d,f,g⟩:=D8 B c hp hs;exact⟨ps,d,by rw[Array.toList_map];exact f,g⟩) (by rw[hp.size_eq];exact b) hf
def D_{a:Addr}{n:Nat}{P:PySem.Fin->Shared->Prop}(c:s.heap.get? a=some (seqObj "list" vs.toArray n))(B:By prog w A good vs ls)(l:∀h',(∀b o,b≠a->s.heap.get? b=some o->h'.get? b=some o)->good h')(hz:vs.length<=sizeLine)(d:vs.length<64)(h:∀f:Array Value,Out ls vs f.toList->P (.done (.ret .none)) {s with heap:=sortedHeap s.heap a vs f}):wpAny (model prog w) A (Builtin.«list.sort» ⟨[.ref a],[]⟩) P E s:=by
 rw[list_sort_plain];have i:a<s⁻¹:=Ao c;refine Aa (listItems_at c rfl ?_);refine Aa (listUpdate_at c rfl ?_ (by rw[Ai];exact hz) (AK _));obtain⟨e1,g⟩:∃e1,(s.heap.update a (AA fun _=>#[])).get? a=some (seqObj "list" #[] e1):=⟨_,get?_update_seq c (fun _=>#[])⟩;refine Aa (seqEpoch_at g rfl ?_);refine Aa (wpAny_newTuple ?_ (by show vs.length<=_;exact hz));refine Aa (wpAny_newList ?_ (AK _));refine AI ?_;have j:(((s.heap.update a (AA fun _=>#[])).push (seqObj "tuple" vs.toArray 0)).push (seqObj "list" #[] 0)).get? a=some (seqObj "list" #[] e1):=by
  rw[Heap.get?_push_ne _ _ _ (by rw[size_push',A4];exact Ap (Nat.lt_succ_of_lt i)),Heap.get?_push_ne _ _ _ (by rw[A4];exact Ap i)];exact g
 show wpAny (model prog w) A _ P E {s with heap:=((s.heap.update a (AA fun _=>#[])).push (seqObj "tuple" vs.toArray 0)).push (seqObj "list" #[] 0)};dsimp only;refine ya (s:={s with heap:=((s.heap.update a (AA fun _=>#[])).push (seqObj "tuple" vs.toArray 0)).push (seqObj "list" #[] 0)}) B rfl d (l _ fun b o hb e=>Ad _ (Ad _ (by rw[Heap.get?_update_ne _ _ _ _ hb];exact e))) fun p c hsz hf=>?_;dsimp only;refine Aa (seqEpoch_at j rfl ?_);refine Aa (listUpdate_at j rfl ?_ (AK _) (AF (Nat.le_of_eq ((Array.size_map ..).trans hsz)) (Nat.le_succ_of_le hz)));rw[hf];simp only[bne_self_eq_false,Aj,if_false];exact Ac (h _ c)
def sH{l:Addr}{Q:Ω}(g:s.heap.IsList l vs.toArray)(B:By prog w A.in1.in1 good vs ls)(i:∀h',(∀b o,s.heap.get? b=some o->h'.get? b=some o)->good h')(hz:vs.length<=sizeLine)(e:vs.length<64)(h:∀d:Array Value,Out ls vs d.toList->Q (.ref (s⁻¹+1)) {s with heap:=sortedAll s.heap vs d}):wpAny (model prog w) A (call (.builtin "sorted") [.ref l]) Q E s:=by
 refine Calls.call_function_entry kind_sorted plain_sorted entry_sorted (args_sorted1 _) ?_;unfold Builtin.«sorted»;refine Aa (m:=checkCount "sorted" 1 1 _) (Ac ?_);refine Aa (collect_list g ?_ hz);refine Aa (wpAny_newList ?_ hz);have hsz:((s.heap.push (seqObj "list" #[] 0)).update s⁻¹ (AA (·++vs.toArray))).objs.size=s⁻¹+1:=by
  rw[A4,size_push']
 have c:(((s.heap.push (seqObj "list" #[] 0)).update s⁻¹ (AA (·++vs.toArray))).push (seqObj "list" vs.toArray 0)).get? (s⁻¹+1)=some (seqObj "list" vs.toArray 0):=by
  rw[<-hsz];exact Ar _ rfl
 have keep:∀b o,s.heap.get? b=some o->(((s.heap.push (seqObj "list" #[] 0)).update s⁻¹ (AA (·++vs.toArray))).push (seqObj "list" vs.toArray 0)).get? b=some o:=fun b o q=>by
  have a:b<s⁻¹:=Ao q;rw[Heap.get?_push_ne _ _ _ (by rw[hsz];exact Ap (Nat.lt_succ_of_lt a)),Heap.get?_update_ne _ _ _ _ (Ap a),Heap.get?_push_ne _ _ _ (Ap a)];exact q
 show wpAny _ _ _ _ _ {s with heap:=((s.heap.push (seqObj "list" #[] 0)).update s⁻¹ (AA (·++vs.toArray))).push (seqObj "list" vs.toArray 0)};rw[hsz];refine Aa (AI (A0 slot_list_sort ⟨_,c,rfl⟩ entry_list_sort (D_ (s:={s with heap:=((s.heap.push (seqObj "list" #[] 0)).update s⁻¹ (AA (·++vs.toArray))).push (seqObj "list" vs.toArray 0)}) c B (fun h' hk=>i h' fun b o q=>hk b o (Ap (Nat.lt_succ_of_lt (Ao q))) (keep b o q)) hz e fun d f=>⟨_,rfl,?_⟩) (args_list_sort _)));exact Ac ⟨_,rfl,h d f⟩
def yb{a kS:Addr}{keys:Array Value}{e e1:Nat}{st:SortSt}{P:PySem.Fin->Shared->Prop}(l:s.heap.get? kS=some (seqObj "list" keys e))(u:s.heap.get? a=some (seqObj "list" #[] e1))(p:kS≠a)(v:keys.size<=sizeLine)(x:Out ls vs ((arrOf st).map (·.2)).toList)(hsz:(arrOf st).size=vs.length)(hz:vs.length<=sizeLine)(y:failedOf st=none)(h:∀h' g c,(∀b o,b≠kS->b≠a->s.heap.get? b=some o->h'.get? b=some o)->h'.get? a=some (seqObj "list" g c)->(∃o,h'.get? kS=some o)->Out ls vs g.toList->h'.objs.size=s⁻¹->P (.done (.ret .none)) {s with heap:=h'}):wpAny (model prog w) A (ksk_tail a false e1 (.ref kS) st) P E s:=by
 have i:=AS s.heap kS (AA fun _=>(#[]:Array Value));have f:(s.heap.update kS (AA fun _=>(#[]:Array Value))).get? a=some (seqObj "list" #[] e1):=(i.2 a p.symm).trans u;have j:=AS (s.heap.update kS (AA fun _=>(#[]:Array Value))) a (AA fun _=>(arrOf st).map (·.2));obtain⟨d,r⟩:∃d,((s.heap.update kS (AA fun _=>(#[]:Array Value))).update a (AA fun _=>(arrOf st).map (·.2))).get? a=some (seqObj "list" ((arrOf st).map (·.2)) d):=
  ⟨_,get?_update_seq f fun _=>(arrOf st).map (·.2)⟩
 unfold ksk_tail
 try dsimp only
 simp only[Aj,if_false];refine Aa (listUpdate_at l rfl ?_ v (AK _));refine Aa (wpAny_letGo ?_);refine Aa (seqEpoch_at f rfl ?_);refine Aa (listUpdate_at f rfl ?_ (AK _) (AF (Nat.le_of_eq ((Array.size_map ..).trans hsz)) (Nat.le_succ_of_le hz)));rw[y];simp only[bne_self_eq_false,Aj,if_false];refine Ac (h _ _ d (fun b o h1 h2 q=>(j.2 b h2).trans ((i.2 b h1).trans q)) r ⟨_,(j.2 kS p).trans (get?_update_seq l fun _=>#[])⟩ x (by rw[A4,A4]))
end
end aF
end
section
namespace L2
open PySem PySem.Spec PyProof.Rows
def clOf(cells:List (Str×Addr)):List (Str×NameKind)->List (Str×Addr)->List (Str×Addr)
 |[],acc=>acc
 |(n,k)::r,acc=>if(k==.free)=true then clOf cells r ((n,(cells.lookup n).getD 0)::acc) else clOf cells r acc
def yd{env:Env}:∀(names:List (Str×NameKind))(acc:List (Str×Addr)),(∀x∈names,x.2=.free->∃c,env.cells.lookup x.1=some c)-> (forIn names acc fun x(r:List (Str×Addr))=>if(x.2==.free)=true then do let c <-cellOf env x.1;pure (ForInStep.yield ((x.1,c)::r)) else pure (ForInStep.yield r):Sem (List (Str×Addr)))=pure (clOf env.cells names acc)
 |[],acc,_=>rfl
 |(n,k)::r,acc,h=>by
  rw[List.forIn_cons];have b:=fun a=>yd (env:=env) r a fun x hx=>h x (Ay _ hx);unfold clOf
  by_cases hk:(k==Bi)=true
  ·have hk':k=.free:=by cases k<;>first|rfl|cases hk
   obtain⟨c,hc⟩:=h (n,k) AB hk';simp only[hk,if_true];unfold cellOf;rw[hc];simp only[pure_bind,Option.getD_some];exact b _
  ·simp only[hk,Aj,if_false,pure_bind]
   exact b _
def Ea{scope:Scope}{env:Env}(h:∀x∈scope.names,x.2=.free->∃c,env.cells.lookup x.1=some c):closureFor scope env=pure (clOf env.cells scope.names []):=by
 rw[<-yd scope.names [] h];unfold closureFor;simp
def sM{cells:List (Str×Addr)}{x:Str}{c:Addr}:∀{names:List (Str×NameKind)}{acc:List (Str×Addr)},(∀y∈names,y.2=.free->∃d,cells.lookup y.1=some d)->(∀p∈acc,cells.lookup p.1=some p.2)->(clOf cells names acc).lookup x=some c->cells.lookup x=some c
 |[],acc,_,ha,h=>ha (x,c) (PySem.mem_of_lookup h)
 |(n,k)::r,acc,hn,ha,h=>by
  unfold clOf at h;have b:∀y∈r,y.2=.free->∃d,cells.lookup y.1=some d:=fun y hy=>hn y (Ay _ hy)
  by_cases hk:(k==Bi)=true
  ·have hk':k=.free:=by cases k<;>first|rfl|cases hk
   obtain⟨d,hd⟩:=hn (n,k) AB hk';rw[if_pos hk] at h;refine sM b (fun p hp=>?_) h;rcases List.mem_cons.mp hp with rfl|hp
   ·show cells.lookup n=some ((cells.lookup n).getD 0)
    have a:cells.lookup n=some d:=hd;rw[a];rfl
   ·exact ha p hp
  ·rw[if_neg hk] at h
   exact sM b ha h
def zZ{x:Str}{c:Addr}:∀{l:List (Str×Addr)},(x,c)∈l->∃d,l.lookup x=some d
 |[],h=>nomatch h
 |(y,d)::l,h=>by
  rw[AY]
  by_cases e:x=y
  ·subst e;exact⟨d,by simp⟩
  ·have hb:(x==y)=false:=by simpa using e
   rw[hb];rcases List.mem_cons.mp h with q|q
   ·cases q;exact absurd rfl e
   ·exact zZ q
def nU{cells:List (Str×Addr)}{x:Str}:∀{names:List (Str×NameKind)}{acc:List (Str×Addr)},((x,Bi)∈names\/∃c,(x,c)∈acc)->∃c,(x,c)∈clOf cells names acc
 |[],acc,h=>h.elim (fun q=>nomatch q) id
 |(n,k)::r,acc,h=>by
  unfold clOf
  by_cases hk:(k==Bi)=true
  ·rw[if_pos hk]
   refine nU ?_;rcases h with h|⟨c,h⟩
   ·rcases List.mem_cons.mp h with q|q
    ·cases q;exact .inr ⟨_,AB⟩
    ·exact .inl q
   ·exact .inr ⟨c,Ay _ h⟩
  ·rw[if_neg hk]
   refine nU ?_;rcases h with h|h
   ·rcases List.mem_cons.mp h with q|q
    ·cases q;exact absurd rfl hk
    ·exact .inl q
   ·exact .inr h
def cxC(X:Cx)(scope:Scope)(N:List Str)(a:List (Str×Addr))(C:Addr)(s₀:Shared)(H₀:Hp)(ex:List Addr):Cx where
 prog:=X.prog
 w:=X.w
 K:=X.K
 mg:=X.mg
 base:=X.base
 A:=X.A
 N:=N
 s₀:=s₀
 H₀:=H₀
 env:=compEnvC scope a C X.env
 outer:=X.stack
 stack:=X.stack
 ex:=ex
 fn:=fun _=>false
 calm:=X.calm
 pn:=X.pn
 xe:=fun _ _=>False
def iK(X:Cx)(bF:List Expr)(t:TT):Prop:=
 ∀(aa:Ψ)(s:Shared)(σ:St)(H:Hp)(Q:Bool->Hp->Prop),Inv X aa σ H s->t σ H Q->
  wpAny (model X.prog X.w) X.A (forIn bF true fun c r=>if r=true then do let ok <-isTrue c X.env (eval c X.env);pure (ForInStep.yield ok) else pure (ForInStep.yield r)) (TP X aa σ Q) X.xe s
def bq:TT:=fun _ H Q=>Q true H
def zS{X:Cx}:iK X [] bq:=fun _ _ _ H _ I h=>wpAny_tests_nil ⟨H,I,h⟩
def lC{X:Cx}{c:Expr}{t:TT}(h:PT X c t):iK X [c] t:=fun aa s σ H Q I hw=>wpAny_tests_one (h aa s σ H Q I hw)
def lE(az:List (Option Nat))(σ:St):St:=az.map fun c=>match c with
 |none=>none
 |some j=>(σ[j]?).getD none
def bW(J:It)(g:TG)(tc:TT)(te:TE)(σ:St)(H1:Hp)(D:Addr)(Q:VK):Prop:=
 ∃W:Nat->Nat->St->Hp->Prop,(∃m,W 0 m σ (upd H1 D (.lst [])))/\
 ∀i m d H2,W i m d H2->(J.stop i H2/\Q (.ref D) H2)\/(J.go i H2/\∀x H3,J.yld i H2 x H3->g x d H3 fun c h=>tc c h fun b e=>
  if b=true then te c e fun y f=>∃ys a,f D=some (.lst ys)/\ys.length<sizeLine/\a<m/\W (i+1) a c (upd f D (.lst (ys++[y])))
  else ∃a,a<m/\W (i+1) a c e)
def kd(wi:TI)(az:List (Option Nat))(g:TG)(tc:TT)(te:TE):TE:=fun σ H Q=>wi σ H fun J H1=>∀D,H1 D=none->bW J g tc te (lE az σ) H1 D Q
def nV(N N':List Str)(az:List (Option Nat))(scope:Scope):Prop:=
 az.length=N'.length/\∀i j:Nat,az[i]?=some (some j)->∃x:Str,N'[i]?=some x/\N[j]?=some x/\scope.names.lookup x=some .free
section
variable{X:Cx}{scope:Scope}{N':List Str}{az:List (Option Nat)}{tg iter cu:Expr}{bF:List Expr}{wi:TI}{g:TG}{tc:TT}{te:TE}{pos:Pos}
def sN{scope:Scope}{env:Env}{x:Str}:∀{names:List (Str×NameKind)},(names.lookup x=some .free\/names.lookup x=some .cell)-> ((names.map fun(n,k)=>if(k==Bi&&env.scope.kind==.function&&env.kindOf n==some .cell) then(n,NameKind.cell) else(n,k)).lookup x=some .free \/
   (names.map fun(n,k)=>if(k==Bi&&env.scope.kind==.function&&env.kindOf n==some .cell) then(n,NameKind.cell) else(n,k)).lookup x=some .cell)
 |[],h=>by simp at h
 |(n,k)::r,h=>by
  have a:=@sN scope env x r;show List.lookup x ((if(k==Bi&&env.scope.kind==.function&&env.kindOf n==some .cell)=true then(n,NameKind.cell) else(n,k))::_)=_\/List.lookup x ((if(k==Bi&&env.scope.kind==.function&&env.kindOf n==some .cell)=true then(n,NameKind.cell) else(n,k))::_)=_;cases hx:x==n with
  |true=>
   simp only[AY,hx] at h
   by_cases hc:(k==Bi&&env.scope.kind==.function&&env.kindOf n==some .cell)=true
   ·rw[if_pos hc];simp[AY,hx]
   ·rw[if_neg hc];simp only[AY,hx];exact h
  |false=>
   simp only[AY,hx] at h
   by_cases hc:(k==Bi&&env.scope.kind==.function&&env.kindOf n==some .cell)=true
   ·rw[if_pos hc];simp only[AY,hx];exact a h
   ·rw[if_neg hc];simp only[AY,hx];exact a h
def sS{env:Env}{x:Str}{a:NameKind}:∀{names:List (Str×NameKind)},(names.map fun(n,k)=>if(k==Bi&&env.scope.kind==.function&&env.kindOf n==some .cell) then(n,NameKind.cell) else(n,k)).lookup x=some a->
  ∃b,names.lookup x=some b/\(a=b\/(b=.free/\a=.cell))
 |[],h=>by simp at h
 |(n,k)::r,h=>by
  have c:=@sS env x a r;have h':List.lookup x ((if(k==Bi&&env.scope.kind==.function&&env.kindOf n==some .cell)=true then(n,NameKind.cell) else(n,k))::_)=some a:=h;cases hx:x==n with
  |true=>
   simp only[AY,hx]
   by_cases hc:(k==Bi&&env.scope.kind==.function&&env.kindOf n==some .cell)=true
   ·rw[if_pos hc] at h'
    simp only[AY,hx] at h';cases h';have hk:k=.free:=by
     rw[AN,AN] at hc;cases k<;>first|rfl|exact absurd hc.1.1 ξ
    exact⟨k,rfl,.inr ⟨hk,rfl⟩⟩
   ·rw[if_neg hc] at h'
    simp only[AY,hx] at h';cases h';exact⟨_,rfl,.inl rfl⟩
  |false=>
   simp only[AY,hx]
   by_cases hc:(k==Bi&&env.scope.kind==.function&&env.kindOf n==some .cell)=true
   ·rw[if_pos hc] at h';simp only[AY,hx] at h';exact c h'
   ·rw[if_neg hc] at h';simp only[AY,hx] at h';exact c h'
structure Left(X:Cx)(aa:Ψ)(σ:St)(H':Hp)(s4:Shared)(C:Addr):Prop where
 ns:∃m,s4.heap.Ns C m
 far:X.s₀⁻¹<=C
 nl:C≠X.env.locals
 nc:∀x c,X.env.cells.lookup x=some c->c≠C
 np:∀p∈X.pn++aa,p.1≠C
 no:H' C=none
 back:∀h',AR C s4.heap h'->Inv X aa σ H' {s4 with heap:=h'}
def ye{use:Option (Value->Sem Unit)}{R:Ω}{pp:Pos}(hc:X.calm=true)(hk:scope.kind=.function)(aG:∀y∈scope.names,y.2≠.cell)(aV:∀y∈scope.names,y.2=.local->scope.names.lookup y.1=some .local)(hfr:∀y∈scope.names,y.2=.free->X.env.kindOf y.1=some .cell\/X.env.kindOf y.1=some .free)(b_:nV X.N N' az scope)(hi:PI X tg iter wi)(hg:∀cl C s₀ H₀ ex,PG (cxC X scope N' cl C s₀ H₀ ex) tg g)(ht:∀cl C s₀ H₀ ex,iK (cxC X scope N' cl C s₀ H₀ ex) bF tc)(he:∀cl C s₀ H₀ ex,PE (cxC X scope N' cl C s₀ H₀ ex) cu te)(hs:∀x,foldedSetIterable iter X.env x=pure x){aa:Ψ}{s:Shared}{σ:St}{H:Hp}{Q:VK}(I:Inv X aa σ H s)(h:kd wi az g tc te σ H Q)(fin:∀(D C:Addr)(H':Hp)(O:Shared)(f:Flow),Left X aa σ H' O C->Q (.ref D) H'->compPost (model X.prog X.w) X.A X.xe use R (.ref D) C (.ok f) O):wpAny (model X.prog X.w) X.A (comprehension (.ListComp cu [⟨tg,iter,bF,0⟩] scope pos) scope X.env pp (newList []) (firstAsync [⟨tg,iter,bF,0⟩]) (firstIter [⟨tg,iter,bF,0⟩] X.env) use) R X.xe s:=by
 have hcl:∀y∈scope.names,y.2=.free->∃c,X.env.cells.lookup y.1=some c:=fun y hy e=>I.ok.has y.1 (hfr y hy e);refine wpAny_comprehension_free (use:=use) rfl hs (Ea hcl) hk aV ?_;refine aJ (hi aa s σ H _ I h) fun xv s1 h1=>aJ h1 fun mD M h2=>?_;obtain⟨it,fp,tn,J,H2,e,I2,T,de,f2,q⟩:=h2;subst e;have lr:H2 M⁻¹=none:=I2.hok.fresh (Ah _);obtain⟨W,⟨m0,w0⟩,turn⟩:=q M⁻¹ lr;refine Bj (wpAny_newFunctionEnv aG (by intro y hy;simp at hy) (fun ay cW c_=>?_) hk);dsimp only at cW c_ ⊢;generalize hD:M⁻¹=D at *;obtain⟨l,e3⟩:∃l:Shared,l={M with heap:=M.heap.push {cls:=.type "list",dict:=none,data:=.seq ([]:List Value).toArray}}:=⟨_,rfl⟩;have h3:l.heap=M.heap.push {cls:=.type "list",dict:=none,data:=.seq ([]:List Value).toArray}:=by rw[e3]
 rw[<-h3] at cW c_ ⊢;have aj:l⁻¹=D+1:=by rw[h3,Heap.size_push,hD]
 have I3:Inv X aa σ (upd H2 D (.lst [])) l:=by
  rw[e3,<-hD];exact I2.lnew (t':=M.toks) (ys:=[]) .nil (AK _)
 obtain⟨Xc,E⟩:∃Xc,Xc=cxC X scope N' (clOf X.env.cells scope.names []) l⁻¹ l (upd H2 D (.lst [])) fp:=⟨_,rfl⟩;have om:PG Xc tg g:=by rw[E];exact hg _ _ _ _ _
 have ht':iK Xc bF tc:=by rw[E];exact ht _ _ _ _ _
 have he':PE Xc cu te:=by rw[E];exact he _ _ _ _ _
 have xP:Xc.prog=X.prog:=by rw[E];rfl
 have xw:Xc.w=X.w:=by rw[E];rfl
 have xK:Xc.K=X.K:=by rw[E];rfl
 have xA:Xc.A=X.A:=by rw[E];rfl
 have xc:Xc.calm=true:=by rw[E];exact hc
 have xe:Xc.env=compEnvC scope (clOf X.env.cells scope.names []) l⁻¹ X.env:=by rw[E];rfl
 have xE:Xc.xe=fun _ _=>False:=by rw[E];rfl
 have F:∀x c,(clOf X.env.cells scope.names []).lookup x=some c->X.env.cells.lookup x=some c:=fun x c e=>sM hcl (fun p hp=>absurd hp (by simp)) e;have mz:∀b∈fp,b≠D/\b<D:=fun b hb=>by
  obtain⟨ob,eb,_⟩:=T.obj 0 _ de b hb;have:=Ao eb;rw[hD] at this;exact⟨Ap this,this⟩
 have hfs:∀b∈frs X.stack,b<D:=fun b hb=>by
  obtain⟨_,ob,eb,_⟩:=I2.stack.mem hb;have:=Ao eb;rw[hD] at this;exact this
 have G:∀b o,l.heap.get? b=some o->ay.get? b=some o:=fun b o e=>by
  have hb:b≠l⁻¹:=Ap (Ao e);exact(c_.2 b hb).trans (Ad _ e)
 have hCf:(upd H2 D (.lst [])) l⁻¹=none:=I3.hok.fresh (Ah _);have Ic:Inv Xc aa (lE az σ) (upd H2 D (.lst [])) {l with heap:=ay}:=by
  have okc:Xc.Ok:=by
   rw[E];refine⟨I.ok.mod,hk,I.ok.glob,I.ok.blt,Ah _,fun x y c a b=>I.ok.inj x y c (F x c a) (F y c b),fun x hx=>?_,(fun x c a=>absurd a Au),I.ok.hd,I.ok.frames,.inl rfl,fun b hb=>⟨?_,fun x c e=>?_⟩,fun b o e=>?_,?_,fun b o e z=>?_,fun b hb z=>?_,?_,fun b hb=>?_⟩
   ·have hx':(relabel scope X.env).names.lookup x=some .cell\/(relabel scope X.env).names.lookup x=some .free:=hx
    have key:∃S,scope.names.lookup x=some S/\(S=.free\/S=.cell):=by
     rcases hx' with q|q
     ·obtain⟨S,e1,e2⟩:=sS q
      rcases e2 with e2|⟨e2,_⟩
      ·exact⟨S,e1,.inr e2.symm⟩
      ·exact⟨S,e1,.inl e2⟩
     ·obtain⟨S,e1,e2⟩:=sS q
      rcases e2 with e2|⟨e2,_⟩
      ·exact⟨S,e1,.inl e2.symm⟩
      ·exact⟨S,e1,.inl e2⟩
    obtain⟨S,e1,e2⟩:=key;have hm:=PySem.mem_of_lookup e1;rcases e2 with rfl|rfl
    ·obtain⟨c,eK⟩:=nU (cells:=X.env.cells) (acc:=[]) (.inl hm)
     exact zZ eK
    ·exact absurd rfl (aG _ hm)
   ·show b≠l⁻¹
    exact Ap (by rw[aj];exact Nat.lt_succ_of_lt (mz b hb).2)
   ·exact(f2 b hb).2.2.2.2.1 x c (F x c e)
   ·exact I3.bs b o e
   ·exact AF I.ok.bsz I3.sz
   ·obtain⟨f,_,_,fx,_,_⟩:=f2 b z
    rcases fx with fx|fx
    ·exact I.ok.noex b o e fx
    ·have:=Az (Ao e) I.ok.bsz
     omega
   ·rcases List.mem_cons.mp (I2.stkSub b z) with r|r
    ·exact(f2 b hb).2.1 r
    ·exact(f2 b hb).2.2.1 r
   ·exact I3.stack
   ·exact I3.stkFree b hb
  refine⟨okc,(by rw[E];rfl),I3.bare,?_,?_,fun x c e=>?_,?_,fun x c e=>?_,fun p hp=>?_,?_,?_⟩
  ·rw[E]
   exact Un.kept G
  ·rw[xe]
   refine⟨_,cW,fun i x v e1 e2 e3=>?_⟩;obtain⟨c1,c2⟩:=b_;unfold lE at e2;rw[Ak] at e2;cases e4:az[i]? with
   |none=>rw[e4] at e2;cases e2
   |some cc=>
    rw[e4] at e2;cases cc with
    |none=>cases e2
    |some j=>
     obtain⟨y,d1,d2,d3⟩:=c2 i j e4;have cI:N'[i]?=some x:=by rw[E] at e1;exact e1
     rw[d1] at cI;have rh:y=x:=Al cI;subst rh;have e5:σ[j]?=some (some v):=by
      simp only[Option.map_some,Option.some.injEq] at e2;cases e6:σ[j]? with
      |none=>rw[e6] at e2;cases e2
      |some ov=>rw[e6] at e2;simp only[Option.getD_some] at e2;rw[e2]
     have hm:=PySem.mem_of_lookup d3;have qq:kH X.env.scope y:=by
      rcases hfr _ hm rfl with q|q
      ·exact .inr (.inl q)
      ·exact .inr (.inr q)
     obtain⟨m,_,hl⟩:=I3.loc;obtain⟨u,ru,lk⟩:=hl j y v d2 e5 qq;refine⟨u,ru,?_⟩;have sE:∃c,X.env.cells.lookup y=some c/\l.heap.IsCell c (some u):=by
      rcases lk with ⟨k1,_⟩|⟨_,c,k2,k3⟩
      ·rcases hfr _ hm rfl with q|q
       ·rw[k1] at q;cases q
       ·rw[k1] at q;cases q
      ·exact⟨c,k2,k3⟩
     obtain⟨c,k2,k3⟩:=sE;obtain⟨d,hd'⟩:=nU (cells:=X.env.cells) (acc:=[]) (.inl hm);obtain⟨d',aH⟩:=zZ hd';have:c=d':=by
      have:=F y d' aH;rw[k2] at this;exact Al this
     subst this;refine .inr ⟨?_,c,aH,k3.keeps G⟩;have rl:=sN (scope:=scope) (env:=X.env) (x:=y) (names:=scope.names) (.inl d3);rcases rl with q|q
     ·exact .inr q
     ·exact .inl q
  ·rw[xe] at e
   obtain⟨v,k3⟩:=I3.cell x c (F x c e);exact⟨v,k3.keeps G⟩
  ·rw[xe];exact hCf
  ·rw[xe] at e
   exact I3.freeC x c (F x c e)
  ·have bd:p∈X.pn++aa:=by rw[E] at hp;exact hp
   obtain⟨a1,a2,a3,a4,a5⟩:=I3.pin p bd;refine⟨G _ _ a1,a2,?_,?_,a5⟩
   ·rw[xe]
    show p.1≠l⁻¹;exact Ap (Ao a1)
   ·rw[E]
    intro z;rcases List.mem_cons.mp (I3.stkSub p.1 z) with r|r
    ·exact a3 r
    ·exact a4 r
  ·rw[xP,xw]
   exact I3.hok.kept G
  ·unfold lE
   rw[Ab,b_.1,E]
   rfl
 have leave:∀{L:St}{H':Hp}{O:Shared}{h':Heap},Inv Xc aa L H' O->AR l⁻¹ O.heap h'->Inv X aa σ H' {O with heap:=h'}:=fun{L H' O h'} I4 au=>by
  have U:∀b o,M.heap.get? b=some o->b≠D/\b≠l⁻¹:=fun b o e=>by
   have hb:=Ao e;rw[hD] at hb;exact⟨Ap hb,Ap (by rw[aj];exact Nat.lt_succ_of_lt hb)⟩
  have Y:∀b o,M.heap.get? b=some o->l.heap.get? b=some o:=fun b o e=>by rw[h3];exact Ad _ e
  have base:Un (frs X.stack) fp (upd H2 D (.lst [])) H' l.heap O.heap:=by
   have:=I4.base;rw[E] at this;exact this
  have hCn:H' l⁻¹=none:=by
   have:=I4.free;rw[xe] at this;exact this
  have os4:O.os=M.os:=by
   have:=I4.os;rw[E] at this;rw[this];show l.os=M.os;rw[e3]
  refine I2.call' (s':={O with heap:=h'}) (ch:=fp) os4 ⟨fun b o q n hb hx=>?_,fun b o q n hb hx=>?_,fun b o q n hx=>?_,fun b o q hx=>?_,fun b xs q=>?_,fun b o u q=>?_,fun b ps q=>?_⟩ ?_ I4.bare fun b hb=>?_
  ·obtain⟨n1,n2⟩:=U b o q
   exact(au.2 b n2).trans (base.keep b o (Y b o q) (by rw[zh n1];exact n) hb hx)
  ·obtain⟨n1,n2⟩:=U b o q
   obtain⟨sl,e⟩:=base.slot b o (Y b o q) (by rw[zh n1];exact n) hb hx;exact⟨sl,(au.2 b n2).trans e⟩
  ·obtain⟨n1,n2⟩:=U b o q
   exact base.free b o (Y b o q) (by rw[zh n1];exact n) hx
  ·obtain⟨n1,n2⟩:=U b o q
   obtain⟨o',e⟩:=base.there b o (Y b o q) hx;exact⟨o',(au.2 b n2).trans e⟩
  ·exact base.tups b xs (by rw[zh (zl q lr)];exact q)
  ·exact base.frzs b o u (by rw[zh (zl q lr)];exact q)
  ·exact base.tbls b ps (by rw[zh (zl q lr)];exact q)
  ·intro b u e
   have lg:=I4.hok b u e;rw[xP,xw] at lg;refine lg.stay (fun c v hc q=>(au.2 c ?_).trans q) (fun _ q=>q) fun _ _ q=>q;rintro rfl;rcases hc with z|z
   ·rw[<-z,hCn] at e;cases e
   ·rw[hCn] at z;cases z
  ·obtain⟨f0,f1,f3,f4,f5,f6⟩:=f2 b hb
   exact⟨f4,f1,f5,f6⟩
 have P:∀{H':Hp},(∀b∈fp,H' b=none)->∀b∈fp,a' Xc aa H' b:=fun{H'} hn b hb=>by
  obtain⟨f0,f1,f3,f4,f5,f6⟩:=f2 b hb;refine⟨hn b hb,?_,?_,.inl (by rw[E];exact hb),fun x c e=>?_,fun p hp=>?_⟩
  ·rw[xe]
   show b≠l⁻¹;exact Ap (by rw[aj];exact Nat.lt_succ_of_lt (mz b hb).2)
  ·rw[E]
   intro z;rcases List.mem_cons.mp (I2.stkSub b z) with r|r
   ·exact f1 r
   ·exact f3 r
  ·rw[xe] at e
   exact f5 x c (F x c e)
  ·rw[E] at hp
   exact f6 p hp
 subst E;have kD:∀n s',(∃i L H',Inv (cxC X scope N' (clOf X.env.cells scope.names []) l⁻¹ l (upd H2 D (.lst [])) fp) aa L H' s'/\tn i s'.heap/\(∀b∈fp,H' b=none)/\W i n L H')->
   codeAny (model X.prog X.w) X.A (.compLoop (.ListComp cu [⟨tg,iter,bF,0⟩] scope pos) 0 (.ref it) (.ref D) (compEnvC scope (clOf X.env.cells scope.names []) l⁻¹ X.env)) (compPost (model X.prog X.w) X.A X.xe use R (.ref D) l⁻¹) s':=by
  intro n0 v7 tX;refine codeAny_loop rfl (fun n s'=>∃i L H',Inv (cxC X scope N' (clOf X.env.cells scope.names []) l⁻¹ l (upd H2 D (.lst [])) fp) aa L H' s'/\tn i s'.heap/\(∀b∈fp,H' b=none)/\W i n L H') (fun n s' hI=>?_) n0 tX;obtain⟨i,L,H',I',af,pf,w'⟩:=hI;show wpAny _ X.A ((compTurn (.ListComp cu [⟨tg,iter,bF,0⟩] scope pos) 0 (.ref it) (.ref D) (compEnvC scope (clOf X.env.cells scope.names []) l⁻¹ X.env)).onRaise (fun x=>do noteFrame x (compEnvC scope (clOf X.env.cells scope.names []) l⁻¹ X.env);theTreesLotGoes x)) _ _ s';refine wpAny_noted ?_;rw[compTurn_list];refine Aa (wpAny_standAt (Aa ?_));rcases turn i n L H' w' with ⟨stop,qn⟩|⟨go,step⟩
  ·refine aJ (T.done (cxC X scope N' (clOf X.env.cells scope.names []) l⁻¹ l (upd H2 D (.lst [])) fp) rfl rfl rfl hc i aa s' L H' _ I' (P pf) af stop) fun r O ⟨hr,I4⟩=>?_
   subst hr;refine Ac ?_;obtain⟨m,hn,_⟩:=id I4.loc;refine fin D _ H' O _ ⟨⟨m,hn⟩,I3.sz,fun e=>?_,fun x c e=>?_,fun p hp=>Ap (Ao (I3.pin p hp).1),I4.free,fun h' au=>leave I4 au⟩ qn
   ·obtain⟨m3,u5,_⟩:=I3.loc
    obtain⟨o3,_,_,mE,_⟩:=u5;exact absurd e.symm (Ap (Ao mE))
   ·obtain⟨v,hv⟩:=I3.cell x c e
    obtain⟨o3,mE,_⟩:=hv;exact Ap (Ao mE)
  ·refine aJ (T.item (cxC X scope N' (clOf X.env.cells scope.names []) l⁻¹ l (upd H2 D (.lst [])) fp) rfl rfl rfl hc i aa s' L H' _ I' (P pf) af go) fun r O ⟨u,hr,h4⟩=>?_
   subst hr;refine Aa (aJ h4 fun _ s5 ⟨x,H5,I5,r5,y5,st5,fr5⟩=>?_);have lW:=I5.pinned (P fr5) (T.obj _ _ st5);refine Aa (A9 (om _ s5 L H5 x u _ lW r5 (step x H5 y5)) (fun _ s6 h6=>?_) fun _ _ z=>z.elim);obtain⟨ku,H6,I6,q6⟩:=h6;refine Aa (A9 (ht' _ s6 ku H6 _ I6 q6) (fun ok s7 h7=>?_) fun _ _ z=>z.elim);obtain⟨H7,I7,q7⟩:=h7;have again:∀{lG:St}{H8:Hp}{s8:Shared}{m':Nat},Inv (cxC X scope N' (clOf X.env.cells scope.names []) l⁻¹ l (upd H2 D (.lst [])) fp) (aa++k8 fp s5.heap) lG H8 s8->m'<n->W (i+1) m' lG H8->
     ∃m,m<n/\∃i L H',Inv (cxC X scope N' (clOf X.env.cells scope.names []) l⁻¹ l (upd H2 D (.lst [])) fp) aa L H' s8/\tn i s8.heap/\(∀b∈fp,H' b=none)/\W i m L H':=fun{lG H8 s8 m'} I8 hm w8=>by
    refine⟨m',hm,i+1,lG,H8,I8.unpinned,T.keep _ _ _ st5 fun b hb o e=>(I8.pin (b,o) (List.mem_append_right _ (List.mem_append_right _ (nu hb e)))).1,fun b hb=>?_,w8⟩;obtain⟨o,e,d⟩:=T.obj _ _ st5 b hb;exact(I8.pin (b,o) (List.mem_append_right _ (List.mem_append_right _ (nu hb e)))).2.1
   cases ok with
   |false=>
    obtain⟨m',hm,w7⟩:=q7;exact Ac ⟨rfl,again I7 hm w7⟩
   |true=>
    refine Aa (Aa (A9 (he' _ s7 ku H7 _ I7 q7) (fun v s8 h8=>?_) fun _ _ z=>z.elim));obtain⟨y,H8,I8,r8,ys,m',ji,uP,u6,w8⟩:=h8;refine Aa (A9 (nL (X:=cxC X scope N' (clOf X.env.cells scope.names []) l⁻¹ l (upd H2 D (.lst [])) fp) _ s8 ku H8 (.ref D) [y] (.ref D) [v] (fun _ H9=>H9=upd H8 D (.lst (ys++[y]))) I8 rfl (.cons r8 .nil) ⟨D,ys,y,rfl,rfl,ji,uP,rfl⟩) (fun _ s9 h9=>?_) fun _ _ z=>z.elim);obtain⟨_,H9,I9,_,e9⟩:=h9;subst e9;exact Ac (Ac ⟨rfl,again I9 u6 w8⟩)
 have start:∃i L H',Inv (cxC X scope N' (clOf X.env.cells scope.names []) l⁻¹ l (upd H2 D (.lst [])) fp) aa L H' {l with heap:=ay}/\tn i ({l with heap:=ay}:Shared).heap/\(∀b∈fp,H' b=none)/\W i m0 L H':=by
  refine⟨0,lE az σ,upd H2 D (.lst []),Ic,T.keep 0 _ _ de fun b hb o e=>G b o (by rw[h3];exact Ad _ e),fun b hb=>?_,w0⟩;rw[zh (mz b hb).1];exact(f2 b hb).1
 have es:({M with heap:=ay,toks:=M.toks+([]:List (Str×Value)).length}:Shared)={l with heap:=ay}:=by rw[e3];rfl
 show codeAny (model X.prog X.w) X.A _ _ ({M with heap:=ay,toks:=M.toks+([]:List (Str×Value)).length}:Shared);rw[es];refine codeAny_compStart_list (kD m0 _ start) (T.self _ 0 _ _ _ ?_ (kD m0 _ start));exact T.keep 0 _ _ de fun b hb o e=>G b o (by rw[h3];exact Ad _ e)
def Eb(hc:X.calm=true)(hk:scope.kind=.function)(b:∀y∈scope.names,y.2≠.cell)(e:∀y∈scope.names,y.2=.local->scope.names.lookup y.1=some .local)(hfr:∀y∈scope.names,y.2=.free->X.env.kindOf y.1=some .cell\/X.env.kindOf y.1=some .free)(i:nV X.N N' az scope)(hi:PI X tg iter wi)(j:∀a C s₀ H₀ ex,PG (cxC X scope N' a C s₀ H₀ ex) tg g)(l:∀a C s₀ H₀ ex,iK (cxC X scope N' a C s₀ H₀ ex) bF tc)(he:∀a C s₀ H₀ ex,PE (cxC X scope N' a C s₀ H₀ ex) cu te)(hs:∀x,foldedSetIterable iter X.env x=pure x:=by intro _;rfl):PE X (.ListComp cu [⟨tg,iter,bF,0⟩] scope pos) (kd wi az g tc te):=by
 intro aa s σ H Q I h;rw[eval_ListComp];refine ye (use:=none) hc hk b e hfr i hi j l he hs I h fun D C H' o f L q=>?_;obtain⟨m,d⟩:=L.ns;exact⟨m,d,fun h' c=>⟨.ref D,H',L.back h' c,rfl,q⟩⟩
end
end L2
end
section
namespace Zp
open PySem PySem.Spec PyProof.Rows
section
variable{prog:Program}{w:World}{A:Around}{E:Ω}{s:Shared}
def Ec{it t:Addr}{i:Nat}{c:Array Value}{x:Value}{Q:Ω}(b:s.heap.IsTupleIter it t i)(f:s.heap.IsTuple t c)(hx:c[i]?=some x)(g:∀h',h'.IsTupleIter it t (i+1)->AR it s.heap h'->Q x {s with heap:=h'}):wpAny (model prog w) A (Builtin.SmallTypes.nextOf (.ref it)) Q E s:=by
 obtain⟨o,a,hc,hd⟩:=id b;obtain⟨h,d,_,nl,e⟩:=f;unfold Builtin.SmallTypes.nextOf;refine Aa (wpAny_callSpecial?_slot (name:=Str.ofString "__next__") b.typeIs F.slot_tuple_iterator_next (A0 F.slot_tuple_iterator_next b.typeIs F.entry_tuple_iterator_next ?_ (F.args_tuple_iterator_next_1 _)));show wpAny _ _ (field (.ref it) 0 >>= _) _ _ s;refine Aa (A6 a hd (x:=.ref t) rfl ?_);show wpAny _ _ (if(Value.ref t==Value.none)=true then _ else _) _ _ s;rw[if_neg (show ¬((Value.ref t==Value.none)=true) from Au)];show wpAny _ _ (field (.ref it) 1 >>= _) _ _ s;refine Aa (A6 a hd (x:=.int i 0) rfl ?_);show wpAny _ _ (seqItems? (.ref t) >>= _) _ _ s;refine Aa (wpAny_seqItems d e ?_);simp only[Int.toNat_natCast,hx];refine Aa (wpAny_setField a hd (by simp) (Ac ⟨x,rfl,Ac (g _ ?_ (AS ..))⟩));exact⟨_,Heap.get?_update_self _ a (Obj.isFreed_of_fields (Obj.data_mapFields hd _)),(Obj.cls_mapFields ..).trans hc,by
  rw[Obj.data_mapFields hd];simp[rawInt]⟩
def Ed{it t:Addr}{i:Nat}{d:Array Value}{Q:Ω}(f:A.handled=none)(c:s.heap.IsTupleIter it t i)(j:s.heap.IsTuple t d)(hx:d[i]?=none)(l:∀h' e,Heap.ExtBut it s.heap h'->(∃o,h'.get? e=some o/\o.cls=.type "StopIteration")->E (.ref e) {s with heap:=h'}):wpAny (model prog w) A (Builtin.SmallTypes.nextOf (.ref it)) Q E s:=by
 obtain⟨o,b,hc,hd⟩:=id c;obtain⟨p,g,_,nl,h⟩:=j;unfold Builtin.SmallTypes.nextOf;refine Aa (wpAny_callSpecial?_slot (name:=Str.ofString "__next__") c.typeIs F.slot_tuple_iterator_next (A0 F.slot_tuple_iterator_next c.typeIs F.entry_tuple_iterator_next ?_ (F.args_tuple_iterator_next_1 _)));show wpAny _ _ (field (.ref it) 0 >>= _) _ _ s;refine Aa (A6 b hd (x:=.ref t) rfl ?_);show wpAny _ _ (if(Value.ref t==Value.none)=true then _ else _) _ _ s;rw[if_neg (show ¬((Value.ref t==Value.none)=true) from Au)];show wpAny _ _ (field (.ref it) 1 >>= _) _ _ s;refine Aa (A6 b hd (x:=.int i 0) rfl ?_);show wpAny _ _ (seqItems? (.ref t) >>= _) _ _ s;refine Aa (wpAny_seqItems g h ?_);simp only[Int.toNat_natCast,hx];refine Aa (wpAny_rule (Aa (wpAny_setField b hd (by simp) ?_)));show wpAny _ _ (newExc (.type "StopIteration") [] >>= _) _ _ _;refine Aa ?_;simp only[newExc,newTuple];refine Aa (Bj ?_ (by size_fits));refine Aa (m:=firstArgMember _ _) (wpAny_of_eq (a:=Value.none) (by first|rfl|(simp only[firstArgMember];rfl)) ?_);refine Bj ?_ (by size_fits);simp only[raiseNew];refine Aa (wpAny_handled ?_)
 first|rw[show A.in1.handled=none from f]|rw[f]
 refine Aa (Ac (wpAny_throw ?_));exact l _ _ (((AS ..).extBut.push _).push _) ⟨_,Ar _ rfl,rfl⟩
end
def Ee{h h':Heap}{a:Addr}{b:Array Value}(x:h.IsTuple a b)(e:∀o,h.get? a=some o->h'.get? a=some o):h'.IsTuple a b:=let ⟨o,ho,r⟩:=x;⟨o,e o ho,r⟩
def yf{prog:Program}{w:World}{A:Around}(j:A.handled=none)(it t:Addr)(b:t≠it)(a:Array Value):Draws prog w A it [it,t] a.size (fun i v=>a[i]?=some v) (fun i h=>h.IsTupleIter it t i/\h.IsTuple t a) where
 live:=fun _ _ st=>let ⟨o,ho,_⟩:=st.1;⟨o,ho⟩
 frame:=fun _ _ _ st hk=>⟨st.1.at fun o e=>hk it (by simp) o e,Ee st.2 fun o e=>hk t (by simp) o e⟩
 item:=fun i s Q E hi st d=>by
  refine Ec st.1 st.2 (x:=a[i]) (by simp[hi]) fun h' f c=>?_;exact d _ h' s.toks (by simp[hi]) ⟨f,st.2.extBut c.extBut b⟩ c
 done:=fun s Q E st g=>Ed j st.1 st.2 (by simp) g
structure Apart(z TI TO i1 i2:Addr)(cy cx:List Addr):Prop where
 z1:z∉cy
 z2:z∉cx
 o1:TO∉cy
 o2:TO∉cx
 m1:i1∈cy
 m2:i2∈cx
 x12:i1∉cx
 x21:i2∉cy
 TIz:TI≠z
 TOz:TO≠z
 TITO:TI≠TO
 TIi1:TI≠i1
 TIi2:TI≠i2
section
variable{prog:Program}{w:World}{A:Around}{E:Ω}{s:Shared}{z TI TO i1 i2:Addr}{cy cx:List Addr}{n1 n2 i:Nat}{P1 P2:Nat->Value->Prop}{S1 S2:Nat->Heap->Prop}{a b:Value}
def Ef{Q:Ω}(D1:Draws prog w A i1 cy n1 P1 S1)(D2:Draws prog w A i2 cx n2 P2 S2)(D:Apart z TI TO i1 i2 cy cx)(hz:IsZip s.heap z TI TO .none)(eO:IsPair s.heap TI (.ref i1) (.ref i2))(eG:IsPair s.heap TO a b)(h1:S1 i s.heap)(h2:S2 i s.heap)(l1:i<n1)(l2:i<n2)(hQ:∀x y h' tk,P1 i x->P2 i y->IsZip h' z TI TO (rawInt s⁻¹)->IsPair h' TO x y->S1 (i+1) h'->S2 (i+1) h'->IsPair h' s⁻¹ x y->h'.objs.size=s⁻¹+1->
   (∀c o,c≠z->c≠TO->c≠i1->c≠i2->s.heap.get? c=some o->h'.get? c=some o)->Q (.ref s⁻¹) {s with heap:=h',toks:=tk}):
  wpAny (model prog w) A (Builtin.«zip.__next__» ⟨[.ref z],[]⟩) (fun fin s'=>∃v,fin=.done (.ret v)/\Q v s') E s:=by
 have f:∀c∈cy,c≠z:=fun c hc e=>D.z1 (e▸hc);have I:∀c∈cx,c≠z:=fun c hc e=>D.z2 (e▸hc);have J:∀c∈cy,c≠TO:=fun c hc e=>D.o1 (e▸hc);have L:∀c∈cx,c≠TO:=fun c hc e=>D.o2 (e▸hc);have l7:∀c∈cx,c≠i1:=fun c hc e=>D.x12 (e▸hc);have vp:∀c∈cy,c≠i2:=fun c hc e=>D.x21 (e▸hc);have k_:i1≠z:=f _ D.m1;have mB:i2≠z:=I _ D.m2;have iW:TO≠i1:=(J _ D.m1).symm;have lU:TO≠i2:=(L _ D.m2).symm;show wpAny _ _ (field (.ref z) 2 >>= _) _ _ _;refine Aa (A6 hz rfl (x:=.bool false) rfl ?_);show wpAny _ _ (field (.ref z) 3 >>= _) _ _ _;refine Aa (A6 hz rfl (x:=.ref TI) rfl ?_);refine Aa (wpAny_seqItems eO rfl ?_);show wpAny _ _ (Builtin.SmallTypes.ownedTupleIsFree (.ref z) >>= _) _ _ _;refine Aa ?_;unfold Builtin.SmallTypes.ownedTupleIsFree;refine Aa (A6 hz rfl (x:=.none) rfl (Ac ?_));simp only[if_true];refine Aa (wpAny_rule ?_);refine Aa (A6 hz rfl (x:=.ref TO) rfl ?_);refine Aa (wpAny_setField_rec hz (by simp) fun g1 q k1=>?_);replace q:IsZip g1 z TI TO .ellipsis:=q;refine Aa ?_;simp only[List.zipIdx_cons,List.zipIdx_nil,List.forIn_cons,List.forIn_nil];refine Aa (Aa (wpAny_onRaise ?_));show wpAny _ _ (Builtin.SmallTypes.nextOf (.ref i1) >>= _) _ _ _;refine Aa (D1.item i _ _ _ l1 (D1.frame _ _ _ h1 fun c hc o e=>k1.extBut c o (f c hc) e) fun x g2 iD U W k2=>Ac ?_);have M:IsPair g2 TO a b:=k2.extBut _ _ iW (k1.extBut _ _ D.TOz eG);refine Aa (wpAny_seqItems M rfl ?_);refine Aa (wpAny_updateSeq_pair M fun g3 r k3=>?_);replace r:IsPair g3 TO x b:=r;refine Aa (wpAny_letGo (Ac ?_));refine Aa (Aa (wpAny_onRaise ?_));show wpAny _ _ (Builtin.SmallTypes.nextOf (.ref i2) >>= _) _ _ _;refine Aa (D2.item i _ _ _ l2 (D2.frame _ _ _ h2 fun c hc o e=>k3.extBut c o (L c hc) (k2.extBut c o (l7 c hc) (k1.extBut c o (I c hc) e))) fun y g4 vU X Y g=>Ac ?_);have N:IsPair g4 TO x b:=g.extBut _ _ lU r;refine Aa (wpAny_seqItems N rfl ?_);refine Aa (wpAny_updateSeq_pair N fun g5 j k5=>?_);replace j:IsPair g5 TO x y:=j;refine Aa (wpAny_letGo (Ac (Ac ?_)));refine Aa (wpAny_seqItems j rfl ?_);refine Aa (wpAny_newTuple ?_);have hsz:g5.objs.size=s⁻¹:=by rw[k5.1,g.1,k3.1,k2.1,k1.1]
 have O:IsZip g5 z TI TO .ellipsis:=k5.extBut _ _ D.TOz.symm (g.extBut _ _ mB.symm (k3.extBut _ _ D.TOz.symm (k2.extBut _ _ k_.symm q)));have kk:∀c o,c≠z->c≠TO->c≠i1->c≠i2->s.heap.get? c=some o->g5.get? c=some o:=fun c o d l u C e=>
  k5.extBut _ _ l (g.extBut _ _ C (k3.extBut _ _ l (k2.extBut _ _ u (k1.extBut _ _ d e))))
 have d1:S1 (i+1) g5:=D1.frame _ _ _ W fun c hc o e=>k5.extBut c o (J c hc) (g.extBut c o (vp c hc) (k3.extBut c o (J c hc) e));have d2:S2 (i+1) g5:=D2.frame _ _ _ Y fun c hc o e=>k5.extBut c o (L c hc) e;have P:z<g5.objs.size:=Ao O;have e1:∀c∈cy,∀o,g5.get? c=some o->c<g5.objs.size:=fun c _ o e=>Ao e;show wpAny _ _ (Builtin.SmallTypes.ownedTupleHandOut (.ref z) (.ref g5.objs.size) >>= _) _ _ _;refine Aa ?_;unfold Builtin.SmallTypes.ownedTupleHandOut;have z6:IsZip (g5.push {cls:=.type "tuple",data:=.seq #[x,y]}) z TI TO .ellipsis:=Ad _ O;refine Aa (wpAny_setField_rec z6 (by simp) fun g7 F G=>?_);replace F:IsZip g7 z TI TO (rawInt g5.objs.size):=F;refine wpAny_setField_rec F (by simp) fun h p H=>?_;replace p:IsZip h z TI TO (rawInt g5.objs.size):=p;have up:∀c o,c≠z->g5.get? c=some o->h.get? c=some o:=fun c o d e=>H.extBut _ _ d (G.extBut _ _ d (Ad _ e));have T:IsPair h g5.objs.size x y:=H.extBut _ _ (Nat.ne_of_gt P) (G.extBut _ _ (Nat.ne_of_gt P) (Ar _ rfl));have S:h.objs.size=g5.objs.size+1:=by rw[H.1,G.1,Heap.size_push]
 rw[hsz] at p T S;refine Ac ⟨_,rfl,?_⟩;show Q (.ref g5.objs.size) _;rw[hsz];exact hQ x y h _ U X p (up _ _ D.TOz j) (D1.frame _ _ _ d1 fun c hc o e=>up c o (f c hc) e) (D2.frame _ _ _ d2 fun c hc o e=>up c o (I c hc) e) T S fun c o d l u C e=>up c o d (kk c o d l u C e)
def Eg{Q:Fin->Shared->Prop}(D1:Draws prog w A i1 cy n1 P1 S1)(D2:Draws prog w A i2 cx n2 P2 S2)(D:Apart z TI TO i1 i2 cy cx)(hz:IsZip s.heap z TI TO .none)(T:IsPair s.heap TI (.ref i1) (.ref i2))(U:IsPair s.heap TO a b)(h1:S1 i s.heap)(h2:S2 i s.heap)(J:i=n1\/(i<n1/\i=n2))(G:∀h' e tk,(∀c o,c≠z->c≠TO->c≠i1->c≠i2->s.heap.get? c=some o->h'.get? c=some o)->(∃o,h'.get? e=some o/\o.cls=.type "StopIteration")->E (.ref e) {s with heap:=h',toks:=tk}):wpAny (model prog w) A (Builtin.«zip.__next__» ⟨[.ref z],[]⟩) Q E s:=by
 have h:∀c∈cy,c≠z:=fun c hc e=>D.z1 (e▸hc);have v:∀c∈cx,c≠z:=fun c hc e=>D.z2 (e▸hc);have M:∀c∈cy,c≠TO:=fun c hc e=>D.o1 (e▸hc);have N:∀c∈cx,c≠TO:=fun c hc e=>D.o2 (e▸hc);have O:∀c∈cx,c≠i1:=fun c hc e=>D.x12 (e▸hc);have y:i1≠z:=h _ D.m1;have P:i2≠z:=v _ D.m2;have S:TO≠i1:=(M _ D.m1).symm;show wpAny _ _ (field (.ref z) 2 >>= _) _ _ _;refine Aa (A6 hz rfl (x:=.bool false) rfl ?_);show wpAny _ _ (field (.ref z) 3 >>= _) _ _ _;refine Aa (A6 hz rfl (x:=.ref TI) rfl ?_);refine Aa (wpAny_seqItems T rfl ?_);show wpAny _ _ (Builtin.SmallTypes.ownedTupleIsFree (.ref z) >>= _) _ _ _;refine Aa ?_;unfold Builtin.SmallTypes.ownedTupleIsFree;refine Aa (A6 hz rfl (x:=.none) rfl (Ac ?_));simp only[if_true];refine Aa (wpAny_rule ?_);refine Aa (A6 hz rfl (x:=.ref TO) rfl ?_);refine Aa (wpAny_setField_rec hz (by simp) fun g1 j k1=>?_);replace j:IsZip g1 z TI TO .ellipsis:=j;refine Aa ?_;simp only[List.zipIdx_cons,List.zipIdx_nil,List.forIn_cons,List.forIn_nil];refine Aa (Aa (wpAny_onRaise ?_));have f1:=D1.frame _ _ _ h1 fun c hc o e=>k1.extBut c o (h c hc) e;rcases J with p|⟨L,p⟩
 ·show wpAny _ _ (Builtin.SmallTypes.nextOf (.ref i1) >>= _) _ _ _
  refine Aa (D1.done _ _ _ (p▸f1) fun g2 e k2 he=>?_);obtain⟨q,d,g⟩:=he;have z2:IsZip g2 z TI TO .ellipsis:=k2 _ _ y.symm j;have r:e≠z:=fun x=>by subst x;rw[z2] at d;cases d;simp at g
  refine wpAny_setField_rec z2 (by simp) fun g3 _ k3=>G g3 e _ (fun c o f _ l _ x=>k3.extBut _ _ f (k2 _ _ l (k1.extBut _ _ f x))) ⟨q,k3.extBut _ _ r d,g⟩
 ·show wpAny _ _ (Builtin.SmallTypes.nextOf (.ref i1) >>= _) _ _ _
  refine Aa (D1.item i _ _ _ L f1 fun x g2 W X Y k2=>Ac ?_);have C:IsPair g2 TO a b:=k2.extBut _ _ S (k1.extBut _ _ D.TOz U);refine Aa (wpAny_seqItems C rfl ?_);refine Aa (wpAny_updateSeq_pair C fun g3 t3 k3=>?_);refine Aa (wpAny_letGo (Ac ?_));refine Aa (Aa (wpAny_onRaise ?_));have f2:S2 i g3:=D2.frame _ _ _ h2 fun c hc o e=>k3.extBut c o (N c hc) (k2.extBut c o (O c hc) (k1.extBut c o (v c hc) e));show wpAny _ _ (Builtin.SmallTypes.nextOf (.ref i2) >>= _) _ _ _;refine Aa (D2.done _ _ _ (p▸f2) fun g4 e u he=>?_);obtain⟨q,d,g⟩:=he;have F:IsZip g4 z TI TO .ellipsis:=u _ _ P.symm (k3.extBut _ _ D.TOz.symm (k2.extBut _ _ y.symm j));have r:e≠z:=fun x=>by subst x;rw[F] at d;cases d;simp at g
  refine wpAny_setField_rec F (by simp) fun g5 _ k5=>G g5 e _ (fun c o f H l I x=>k5.extBut _ _ f (u _ _ I (k3.extBut _ _ H (k2.extBut _ _ l (k1.extBut _ _ f x))))) ⟨q,k5.extBut _ _ r d,g⟩
end
def Eh{prog:Program}{w:World}{A:Around}{z TI TO i1 i2:Addr}{cy cx:List Addr}{n1 n2:Nat}{P1 P2:Nat->Value->Prop}{S1 S2:Nat->Heap->Prop}(D1:Draws prog w A.in1 i1 cy n1 P1 S1)(D2:Draws prog w A.in1 i2 cx n2 P2 S2)(D:Apart z TI TO i1 i2 cy cx):WalksT prog w A z (z::TI::TO::(cy++cx)) [z,TO,i1,i2] (min n1 n2) (fun i vals=>∃x y,P1 i x/\P2 i y/\vals=#[x,y])
   (fun i h=>IsZip h z TI TO .none/\IsPair h TI (.ref i1) (.ref i2)/\(∃a b,IsPair h TO a b)/\S1 i h/\S2 i h)
   (fun i T h=>IsZip h z TI TO (rawInt T)/\IsPair h TI (.ref i1) (.ref i2)/\(∃a b,IsPair h TO a b)/\S1 (i+1) h/\S2 (i+1) h/\T≠z/\T≠TO/\T≠i1/\T≠i2) where
 sub:=fun c hc=>by
  simp at hc ⊢;rcases hc with rfl|rfl|rfl|rfl
  ·simp
  ·simp
  ·exact .inr (.inr (.inr (.inl D.m1)))
  ·exact .inr (.inr (.inr (.inr D.m2)))
 frame:=fun i h h' d hk=>by
  obtain⟨hz,f,⟨a,b,g⟩,h1,h2⟩:=d;exact⟨hk z (by simp) _ hz,hk TI (by simp) _ f,⟨a,b,hk TO (by simp) _ g⟩,D1.frame _ _ _ h1 fun c hc o e=>hk c (by simp[hc]) o e,D2.frame _ _ _ h2 fun c hc o e=>hk c (by simp[hc]) o e⟩
 item:=fun i s Q E hi d j=>by
  obtain⟨hz,f,⟨a,b,g⟩,h1,h2⟩:=d;have hT:s.TypeIs (.ref z) "zip":=⟨_,hz,rfl⟩;unfold pyNext;refine Aa (wpAny_attempt (wpAny_callSpecial?_slot (name:=Str.ofString "__next__") hT F.slot_zip_next (A0 F.slot_zip_next hT F.entry_zip_next
   (Ef D1 D2 D hz f g h1 h2 (Az hi (Nat.min_le_left ..)) (Az hi (Nat.min_le_right ..)) fun x y h' tk p r u v C G H W hk=>Ac ?_) (F.args_zip_next_1 _))))
  have lt:∀{c o},s.heap.get? c=some o->s⁻¹≠c:=fun e=>Nat.ne_of_gt (Ao e);obtain⟨X,J⟩:=D1.live _ _ h1;obtain⟨Y,L⟩:=D2.live _ _ h2;exact j s⁻¹ #[x,y] h' tk ⟨_,_,p,r,rfl⟩ (Ah _) ⟨_,H,rfl,_,rfl⟩ ⟨u,hk _ _ D.TIz D.TITO D.TIi1 D.TIi2 f,⟨_,_,v⟩,C,G,lt hz,lt g,lt J,lt L⟩
   fun c o hc e=>hk c o (fun x=>hc (by simp[x])) (fun x=>hc (by simp[x])) (fun x=>hc (by simp[x])) (fun x=>hc (by simp[x])) e
 go:=fun cM k pos i T s Q E hm j=>by
  obtain⟨hz,f,⟨a,b,g⟩,h1,h2,_⟩:=hm;refine wpAny_letOwnedTupleGo_zip hz fun h' I l=>j h' ⟨I,l.extBut _ _ D.TIz f,⟨a,b,l.extBut _ _ D.TOz g⟩,
   D1.frame _ _ _ h1 fun c hc o e=>l.extBut c o (fun q=>D.z1 (q▸hc)) e,D2.frame _ _ _ h2 fun c hc o e=>l.extBut c o (fun q=>D.z2 (q▸hc)) e⟩ fun c o hc e=>l.extBut _ _ (fun x=>hc (by simp[x])) e
 apart:=fun i T h hm hT=>by
  obtain⟨_,_,_,_,_,M,N,O,P⟩:=hm;simp at hT;rcases hT with rfl|rfl|rfl|rfl
  ·exact M rfl
  ·exact N rfl
  ·exact O rfl
  ·exact P rfl
 done:=fun s Q E d j=>by
  obtain⟨hz,f,⟨a,b,g⟩,h1,h2⟩:=d;have hT:s.TypeIs (.ref z) "zip":=⟨_,hz,rfl⟩;have U:min n1 n2=n1\/(min n1 n2<n1/\min n1 n2=n2):=ω
  unfold pyNext;refine Aa (wpAny_attempt (wpAny_callSpecial?_slot (name:=Str.ofString "__next__") hT F.slot_zip_next
   (A0 F.slot_zip_next hT F.entry_zip_next (Eg D1 D2 D hz f g h1 h2 U fun h' e tk hk he=>?_) (F.args_zip_next_1 _))))
  obtain⟨o,S,hc⟩:=he;refine Aa (wpAny_isInstance (T:="StopIteration") (b:=true) ⟨o,S,hc⟩ isSubtype_stop ?_);exact Ac (j _ tk fun c o hc e=>hk c o (fun x=>hc (by simp[x])) (fun x=>hc (by simp[x])) (fun x=>hc (by simp[x])) (fun x=>hc (by simp[x])) e)
 self:=fun i s Q E d j=>wpAny_pyIter_zip d.1 j
end Zp
end
section
namespace L2
open PySem PySem.Spec PyProof.Rows
section
variable{X:Cx}{aa:Ψ}{σ:St}{H:Hp}{s:Shared}{h':Heap}
def Inv.turneds{t':Nat}{ch:List Addr}(I:Inv X aa σ H s)(hf:∀b∈ch,a' X aa H b)(k:∀b o,b∉ch->s.heap.get? b=some o->h'.get? b=some o):Inv X aa σ H {s with heap:=h',toks:=t'}:=by
 have a:∀b u,H b=some u->b∉ch:=fun b u e z=>by have:=(hf b z).1;rw[this] at e;cases e
 refine I.step (g':=s.gens) (d':=s.drawn) (ch:=ch) (fun b hb=>?_) (fun b o _ _ hc e _=>k b o hc e) (fun b o _ _ hc e _=>⟨o.slots,k b o hc e⟩) (fun _ _ _ _ n=>n)
  (fun b o hc e=>⟨o,k b o hc e⟩) (fun _ _ e=>e) (fun _ _ _ e=>e) (fun b ps e=>⟨#[],by rw[e];simp⟩) (fun m hm=>?_) (fun b u e=>?_) I.bare
 ·obtain⟨h,f1,f2,d,f,f5⟩:=hf b hb
  exact⟨d,f1,f,f5⟩
 ·obtain⟨o,es,ep,g,r⟩:=hm
  exact⟨o,es,ep,k _ o (fun z=>(hf _ z).2.1 rfl) g,r⟩
 ·refine(I.hok b u e).stay (fun c v hc q=>k c v ?_ q) (fun _ q=>q) fun _ _ q=>q
  rcases hc with z|z
  ·rw[z];exact a b u e
  ·exact a c _ z
def Inv.adopt{a:Addr}{o:HO}(I:Inv X aa σ H s)(d:H a=none)(h1:X.s₀⁻¹<=a)(h2:a≠X.env.locals)(f:∀x c,X.env.cells.lookup x=some c->c≠a)(g:∀p∈X.pn++aa,p.1≠a)(new:zC X.prog X.w (upd H a o) s.heap a o):Inv X aa σ (upd H a o) s:=by
 refine I.step (h':=s.heap) (g':=s.gens) (t':=s.toks) (d':=s.drawn) (ch:=[a]) (fun b hb=>?_) (fun b o _ _ hc e _=>e) (fun b o _ _ hc e _=>⟨o.slots,e⟩) (fun b o hc e n=>?_)
  (fun b o hc e=>⟨o,e⟩) (fun b xs e=>?_) (fun b o u e=>?_) (fun b ps e=>⟨#[],?_⟩) (fun m hm=>hm) (fun b u e=>?_) I.bare
 ·have e:b=a:=by simpa using hb
  subst e;exact⟨.inr h1,h2,f,g⟩
 ·rw[zh (fun z=>hc (by simp[z]))];exact n
 ·rw[zh (zl e d)];exact e
 ·rw[zh (zl e d)];exact e
 ·rw[zh (zl e d),e];simp
 ·by_cases hb:b=a
  ·subst hb;rw[za] at e;cases e;exact new
  ·rw[zh hb] at e
   exact(I.hok b u e).stay (fun _ _ _ q=>q) (fun c q=>by rw[zh (zl q d)];exact q) fun c xs q=>by rw[zh (zl q d)];exact q
def Inv.grown{t':Nat}{ch:List Addr}{a:Addr}{o:HO}(I:Inv X aa σ H s)(hf:∀b∈ch,a' X aa H b)(k:∀b o,b∉ch->s.heap.get? b=some o->h'.get? b=some o)(hp:s⁻¹<=a)(new:zC X.prog X.w (upd H a o) h' a o):Inv X aa σ (upd H a o) {s with heap:=h',toks:=t'}:=by
 have I1:Inv X aa σ H {s with heap:=h',toks:=t'}:=I.turneds hf k;obtain⟨c,f1,f2,e,d,f5⟩:=I.fpOk hp (I.hok.fresh hp);exact I1.adopt c (AF I.sz hp) f1 d f5 new
def Ei{b t:Addr}{o:Obj}(I:Inv X aa σ H s)(f:a' X aa H b)(hk:X.K.lookup t=some o):t≠b:=by
 intro z;subst z;have e:=I.ok.mod.kin t o hk;rcases f.2.2.2.1 with q|q
 ·exact I.ok.noex t o e q
 ·exact absurd (Az (Ao (I.ok.bs t o e).1) q) (Nat.lt_irrefl _)
def yg{b t:Addr}{xs:List V}(I:Inv X aa σ H s)(f:a' X aa H b)(h:SqT X.K H t xs):t≠b:=by
 rcases h with (h|⟨o,h⟩)|⟨o,_,_,hk,_⟩
 ·exact zl h f.1
 ·exact zl h f.1
 ·exact Ei I f hk
end
def Ej{P:Program}{w:World}{K:Ae}{J:It}{fp wr:List Addr}{it:Addr}{a:Nat->Heap->Prop}{cM:List Expr}{k:Nat}{pos:Pos}(mem:it∈fp)(obj:∀i h,a i h->∀b∈fp,∃o,h.get? b=some o/\∀v,o.data≠.cell v)(keep:∀i h h',a i h->(∀b∈fp,∀o,h.get? b=some o->h'.get? b=some o)->a i h')(hw:∀b∈wr,b∈fp)(W:∀(X:Cx),X.prog=P->X.w=w->X.K=K->X.calm=true->∀(i:Nat)(aa:Ψ)(s:Shared)(σ:St)(H:Hp),Inv X aa σ H s->(∀b∈fp,a' X aa H b)->a i s.heap->(J.go i H\/J.stop i H)->
   ∃(u:List Addr)(n:Nat)(Pt:Nat->Array Value->Prop)(S:Nat->Heap->Prop)(x:Nat->Addr->Heap->Prop),WalksT P w X.A it u wr n Pt S x/\S i s.heap/\(∀j h,S j h->a j h)/\
    (J.go i H->i<n/\∀vals,Pt i vals->∃xs:List V,Vals xs vals.toList/\xs.length<=sizeLine/\∀p,H p=none->J.yld i H (.ref p) (upd H p (.tup xs)))/\(J.stop i H->i=n))
  (self:∀(A:Around)(i:Nat)(s:Shared)(Q:Ω)(E:Ω),a i s.heap->Q (.ref it) s->wpAny (model P w) A (pyIter (.ref it)) Q E s) :
  Turn P w K (.Tuple cM k pos) J fp it a where
 mem:=mem
 obj:=obj
 keep:=keep
 item:=by
  intro X c d f hc i aa s σ H E I hf st l;obtain⟨u,n,Pt,S,x,WT,y,z,g,_⟩:=W X c d f hc i aa s σ H I hf st (.inl l);obtain⟨hi,L⟩:=g l;subst c d f;refine WT.item i s _ _ hi y fun T vals h' tk hp hT C hm hk=>⟨.ref T,rfl,?_⟩;obtain⟨xs,M,hz,hy⟩:=L vals hp;have I1:Inv X aa σ (upd H T (.tup xs)) {s with heap:=h',toks:=tk}:=I.grown (ch:=wr) (fun b hb=>hf b (hw b hb)) hk hT (show zC X.prog X.w _ h' T (.tup xs) from⟨hz,vals.toList,M,by have q:IsTup h' T vals:=C;simpa using q⟩);have O:∀b∈fp,b≠T:=fun b hb=>by
   obtain⟨o,e,_⟩:=obj i _ st b hb;exact Ap (Az (Ao e) hT)
  have r:∀b∈fp,a' X aa (upd H T (.tup xs)) b:=fun b hb=>by
   obtain⟨N,fr⟩:=hf b hb;exact⟨by rw[zh (O b hb)];exact N,fr⟩
  refine WT.go cM k pos i T _ _ _ hm fun D F G=>?_;have U:Inv X aa σ (upd H T (.tup xs)) {s with heap:=D,toks:=tk}:=I1.turneds (s:={s with heap:=h',toks:=tk}) (t':=tk) (ch:=wr) (fun b hb=>r b (hw b hb)) G;exact⟨.ref T,_,U,rfl,hy T (I.hok.fresh hT),z _ _ F,fun b hb=>(r b hb).1⟩
 done:=by
  intro X c d f hc i aa s σ H E I hf st l;obtain⟨u,n,Pt,S,x,WT,y,z,_,g⟩:=W X c d f hc i aa s σ H I hf st (.inr l);subst c d f;have e:=g l;subst e;exact WT.done s _ _ y fun h' tk hk=>⟨rfl,I.turneds (ch:=wr) (fun b hb=>hf b (hw b hb)) hk⟩
 self:=self
def ti(K:Ae)(a b:Addr):It:=
 ⟨fun i H=>∃xs ys,SqT K H a xs/\SqT K H b ys/\i<min xs.length ys.length,
  fun i H v H'=>∃p x y,v=.ref p/\H p=none/\H'=upd H p (.tup [x,y])/\(∀xs,SqT K H a xs->xs[i]?=some x)/\∀ys,SqT K H b ys->ys[i]?=some y,
  fun i H=>∃xs ys,SqT K H a xs/\SqT K H b ys/\i=min xs.length ys.length⟩
def fH:(2:Nat)<=sizeLine:=by rw[sizeLine_eq];decide
def Ek{P:Program}{w:World}{K:Ae}{cM:List Expr}{k:Nat}{pos:Pos}(N O z TI TO i1 i2:Addr)(hd:TI≠z/\TO≠z/\TI≠TO/\TI≠i1/\TI≠i2/\z≠i1/\z≠i2/\TO≠i1/\TO≠i2/\i1≠i2):Turn P w K (.Tuple cM k pos) (ti K N O) [z,TI,TO,i1,i2] z (fun i h=>IsZip h z TI TO .none/\IsPair h TI (.ref i1) (.ref i2)/\(∃a b,IsPair h TO a b)/\h.IsTupleIter i1 N i/\h.IsTupleIter i2 O i):=by
 obtain⟨d1,d2,d3,d4,d5,d6,d7,d8,d9,lc⟩:=hd;refine Ej (wr:=[z,TO,i1,i2]) (by simp) (fun i h st b hb=>?_) (fun i h h' st c=>?_) (fun b hb=>?_) (fun X hP hw hK hc i aa s σ H I hf st lI=>?_) fun A i s Q E st h=>wpAny_pyIter_zip st.1 h
 ·obtain⟨d,l,⟨a,b',q⟩,⟨o4,r,_,S⟩,⟨o5,C,_,e5⟩⟩:=st
  simp at hb;rcases hb with rfl|rfl|rfl|rfl|rfl
  ·exact⟨_,d,fun v z=>by cases z⟩
  ·exact⟨_,l,fun v z=>by cases z⟩
  ·exact⟨_,q,fun v z=>by cases z⟩
  ·exact⟨_,r,fun v z=>by rw[S] at z;cases z⟩
  ·exact⟨_,C,fun v z=>by rw[e5] at z;cases z⟩
 ·obtain⟨d,l,⟨a,b',q⟩,r,C⟩:=st
  exact⟨c z (by simp) _ d,c TI (by simp) _ l,⟨a,b',c TO (by simp) _ q⟩,r.at fun o e=>c i1 (by simp) o e,C.at fun o e=>c i2 (by simp) o e⟩
 ·simp at hb ⊢
  rcases hb with rfl|rfl|rfl|rfl<;>simp
 ·subst hP hw hK
  have hd:∃xs ys,SqT X.K H N xs/\SqT X.K H O ys:=by
   rcases lI with ⟨xs,ys,a,b,_⟩|⟨xs,ys,a,b,_⟩
   ·exact⟨xs,ys,a,b⟩
   ·exact⟨xs,ys,a,b⟩
  obtain⟨xs,ys,D,F⟩:=hd;obtain⟨us,r1,p1,_⟩:=I.tuple D;obtain⟨ws,r2,p2,_⟩:=I.tuple F;have L:=r1.length;have M:=r2.length;have hh:=I.ok.hd hc;obtain⟨d,l,q,r,C⟩:=st;have f:=fun b hb=>yg I (hf b hb) D;have T:=fun b hb=>yg I (hf b hb) F;have AP:Zp.Apart z TI TO i1 i2 [i1,N] [i2,O]:=by
   refine⟨?_,?_,?_,?_,by simp,by simp,?_,?_,d1,d2,d3,d4,d5⟩
   ·simp;exact⟨d6,(f z (by simp)).symm⟩
   ·simp;exact⟨d7,(T z (by simp)).symm⟩
   ·simp;exact⟨d8,(f TO (by simp)).symm⟩
   ·simp;exact⟨d9,(T TO (by simp)).symm⟩
   ·simp;exact⟨lc,(T i1 (by simp)).symm⟩
   ·simp;exact⟨lc.symm,(f i2 (by simp)).symm⟩
  have WZ:=Zp.Eh (prog:=X.prog) (w:=X.w) (A:=X.A) (Zp.yf (A:=X.A.in1) hh i1 N (f i1 (by simp)) us.toArray) (Zp.yf (A:=X.A.in1) hh i2 O (T i2 (by simp)) ws.toArray) AP;refine⟨_,_,_,_,_,WZ,⟨d,l,q,⟨r,p1⟩,⟨C,p2⟩⟩,fun j h st=>⟨st.1,st.2.1,st.2.2.1,st.2.2.2.1.1,st.2.2.2.2.1⟩,fun g=>?_,fun g=>?_⟩
  ·obtain⟨G,J,U,W,hi⟩:=g
   have e1:=I.tuple_inj U D;have e2:=I.tuple_inj W F;subst e1 e2;refine⟨by simpa[<-L,<-M] using hi,fun vals hp=>?_⟩;obtain⟨x,y,px,py,rfl⟩:=hp;have uu:us[i]?=some x:=by simpa using px
   have Y:ws[i]?=some y:=by simpa using py
   have lx:i<G.length:=ω
   have ly:i<J.length:=ω
   have gx:G[i]?=some G[i]:=by simp[lx]
   have gy:J[i]?=some J[i]:=by simp[ly]
   obtain⟨u,e3,ru⟩:=r1.get gx;obtain⟨u',S,dQ⟩:=r2.get gy;rw[uu] at e3;cases e3;rw[Y] at S;cases S;refine⟨[G[i],J[i]],.cons ru (.cons dQ .nil),fH,fun p hp=>⟨p,_,_,rfl,hp,rfl,fun zs hz=>?_,fun zs hz=>?_⟩⟩
   ·rw[I.tuple_inj hz D];exact gx
   ·rw[I.tuple_inj hz F];exact gy
  ·obtain⟨G,J,U,W,hi⟩:=g
   have e1:=I.tuple_inj U D;have e2:=I.tuple_inj W F;subst e1 e2
   simpa[<-L,<-M] using hi
def El(b e:Addr)(xs ys:Array Value):Meets (Builtin.«zip.__new__» ⟨[.type "zip",.ref b,.ref e],[]⟩) (fun _ R s=>s.heap.IsTuple b xs/\s.heap.IsTuple e ys/\
   ∀h',IsZip h' (s⁻¹+4) (s⁻¹+2) (s⁻¹+3) .none->IsPair h' (s⁻¹+2) (.ref s⁻¹) (.ref (s⁻¹+1))->
   IsPair h' (s⁻¹+3) .none .none->h'.IsTupleIter s⁻¹ b 0->h'.IsTupleIter (s⁻¹+1) e 0->
   (∀c o,s.heap.get? c=some o->h'.get? c=some o)->R (.ok (.ret (.ref (s⁻¹+4)))) {s with heap:=h'}):=
 .of_wp fun prog w A R s h=>by
  obtain⟨hp,g,d,tk,os⟩:=s;obtain⟨f,i,h⟩:=h;have p:=sub_zip;have j:Heap.IsTuple (Shared.heap ⟨hp,g,d,tk,os⟩) b xs:=f;have l:Heap.IsTuple (Shared.heap ⟨hp.push {cls:=.type "tuple_iterator",data:=.fields #[.ref b,.int 0 0]},g,d,tk,os⟩) e ys:=Heap.IsTuple.push i _
  wp_walk using wpAny_pyIter_tuple j,wpAny_pyIter_tuple l
  refine⟨_,rfl,?_⟩;dsimp only at h ⊢;have a:∀(h:Heap)(o:Obj),(h.push o).objs.size=h.objs.size+1:=fun h o=>Heap.size_push ..;simp only[a,Nat.add_assoc,Nat.reduceAdd];refine h _ ?_ ?_ ?_ ?_ ?_ fun c o x=>Ad _ (Ad _ (Ad _ (Ad _ (Ad _ x))))
  ·exact Heap.get?_push_at (by simp only[a]) rfl
  ·exact Ad _ (Ad _ (Heap.get?_push_at (by simp only[a]) rfl))
  ·exact Ad _ (Heap.get?_push_at (by simp only[a]) rfl)
  ·exact⟨_,Ad _ (Ad _ (Ad _ (Ad _ (Ar _ rfl)))),rfl,rfl⟩
  ·exact⟨_,Ad _ (Ad _ (Ad _ (Heap.get?_push_at (by simp only[a]) rfl))),rfl,rfl⟩
section
variable{X:Cx}{cM:List Expr}{k:Nat}{gc:Pos}
def tE(K:Ae)(ta:TA):TI:=fun σ H R=>ta σ H fun vs H1=>∃a b,vs=[.ref a,.ref b]/\(∃xs,SqT K H1 a xs)/\(∃ys,SqT K H1 b ys)/\R (ti K a b) H1
def Em{a b:Expr}{ta:TA}{p pos:Pos}(L:Gl X "zip")(hm:X.mg "zip"=none)(M:A5 "zip"=some (.type "zip"))(N:PA X [a,b] ta)(hs:starEach [a,b] X.env=[(false,eval a X.env),(false,eval b X.env)]:=by rfl)(l:starEach [b] X.env=[(false,eval b X.env)]:=by rfl):PI X (.Tuple cM k gc) (.Call (.Name "zip" p) [a,b] [] pos) (tE X.K ta):=by
 intro aa s σ H R I h;refine Call_ (i_ I L hm M (PyProof.Rows.callWith_type1 (aJ (N pos aa s σ H _ I h) fun us c ⟨vs,H1,I1,o,f⟩=>?_) (by rw[hs,l]) (by rw[l];rfl)));obtain⟨i,j,e,⟨xs,f⟩,⟨ys,A⟩,q⟩:=f;subst e;obtain⟨u,P,rfl,C,D⟩:=vals2 o;cases C;cases D;obtain⟨E,_,G,_⟩:=I1.tuple f;obtain⟨J,_,p2,_⟩:=I1.tuple A;refine callType_new F.called_zip ξ (F.typeCall_zip_2 _ _) (F.newCall_zip_2 _ _) (fun obj=>F.args_object_init_3 obj _ _) F.entry_zip_new (El i j E.toArray J.toArray) ⟨G,p2,fun h' g r v w x y=>?_⟩;refine⟨⟨_,g,rfl⟩,wpAny_pyIter_zip g ?_⟩;have O:Inv X aa σ H1 {c with heap:=h'}:=I1.kept (t':=c.toks) y;refine⟨c⁻¹+4,[c⁻¹+4,c⁻¹+2,c⁻¹+3,c⁻¹,c⁻¹+1],_,_,H1,rfl,O,Ek i j _ _ _ _ _ (by refine⟨?_,?_,?_,?_,?_,?_,?_,?_,?_,?_⟩<;>(intro z;have Q:(_:Nat)=_:=z;omega)),⟨g,r,⟨_,_,v⟩,w,x⟩,fun b hb=>?_,q⟩;have d:c⁻¹<=b:=by
  simp only[List.mem_cons,List.not_mem_nil,or_false] at hb;rcases hb with rfl|rfl|rfl|rfl|rfl
  ·exact Nat.le_add_right _ _
  ·exact Nat.le_add_right _ _
  ·exact Nat.le_add_right _ _
  ·exact Ah _
  ·exact Nat.le_add_right _ _
 exact I1.fpOk d (I1.hok.fresh d)
def dN:∀{bs:List Bool}{us:List Value},Vals (bs.map V.bl) us->LSm.BoolsAre us bs
 |[],_,.nil=>.nil
 |b::bs,_,.cons r t=>by cases r;exact .cons b (dN t)
def nW(hc:X.calm=true):bU X (.builtin "all") (fun xs H Q=>∃(l:Addr)(bs:List Bool),xs=[.ref l]/\SqL X.K H l (bs.map V.bl)/\Q (.bl (bs.all id)) H):=by
 intro aa s σ H xs us Q I r h;obtain⟨l,bs,rfl,hq,q⟩:=h;obtain⟨u,rfl,j⟩:=vals1 r;cases j;obtain⟨a,o,p,_⟩:=I.list hq;have w:=I.ok.hd hc;have c:=p.isList;have hb:=dN o;have d:l<s⁻¹:=by obtain⟨_,e,_⟩:=c;exact Ao e
 refine call_all_walk (wpAny_pyIter_list c ?_);refine⟨s⁻¹,[s⁻¹,l],[s⁻¹],a.toArray.size,_,_,fun i=>(bs[i]?).getD true,rfl,Walks.list (A:=X.A.in1) w _ l (Ap d) a.toArray,
  ⟨⟨_,Ar _ rfl,rfl,rfl⟩,c.push _⟩,fun i v s' x y g f=>?_,fun h' tk hk=>?_⟩
 ·obtain⟨b,e,rfl⟩:=hb.get i v (by simpa using g)
  simp only[e,Option.getD_some] at f;exact wpAny_truthy_bool f
 ·have e:((Bb a.toArray.size).all fun i=>(bs[i]?).getD true)=bs.all id:=by
   rw[Ai,hb.length];exact LSm.range_all bs
  rw[e];exact⟨.bl _,H,I.kept (LSm.kept_iter hk),rfl,q⟩
end
section
variable{K:Ae}{a:Addr}{xs:List V}{g:TG}{tc:TT}{te:TE}{σ:St}{H1:Hp}{Q:VK}{D:Addr}
def tH(n:Nat)(a:Nat->St->List V->Hp->Prop)(i m:Nat)(σ:St)(H:Hp):Prop:=m=n-i/\i<=n/\∃ys,ys.length<=i/\a i σ ys H
def d_(n:Nat)(d:Nat->St->List V->Hp->Prop)(D:Addr)(i:Nat)(c:St):VK:=fun y b=>∃ys a,b D=some (.lst ys)/\ys.length<sizeLine/\a<n-i/\tH n d (i+1) a c (upd b D (.lst (ys++[y])))
def cR(n:Nat)(c:Nat->St->List V->Hp->Prop)(i:Nat)(b:St)(d:Hp):Prop:=∃a,a<n-i/\tH n c (i+1) a b d
def bb{n:Nat}{c:Nat->St->List V->Hp->Prop}{i:Nat}{b:St}{ys:List V}{y:V}{a:Hp}(d:n<=sizeLine)(hi:i<n)(f:ys.length<=i)(e:a D=some (.lst ys))(p:c (i+1) b (ys++[y]) (upd a D (.lst (ys++[y])))):d_ n c D i b y a:=
 ⟨ys,n-(i+1),e,ω,ω,rfl,hi,ys++[y],by simp;omega,p⟩
def ez{n:Nat}{b:Nat->St->List V->Hp->Prop}{i:Nat}{a:St}{ys:List V}{c:Hp}(hi:i<n)(d:ys.length<=i)(p:b (i+1) a ys c):cR n b i a c:=
 ⟨n-(i+1),ω,rfl,hi,ys,ω,p⟩
def lH{J:It}(n:Nat)(a:Nat->St->List V->Hp->Prop)(l:a 0 σ [] (upd H1 D (.lst [])))(o:∀σ ys H,a n σ ys H->J.stop n H)(q:∀i σ ys H,i<n->a i σ ys H->J.go i H)(hs:∀i σ ys H x H',i<n->ys.length<=i->a i σ ys H->J.yld i H x H'->g x σ H' fun d r=>tc d r fun b h=>if b=true then te d h (d_ n a D i d) else cR n a i d h)(hd:∀σ ys H,a n σ ys H->Q (.ref D) H):bW J g tc te σ H1 D Q:=by
 refine⟨tH n a,⟨n,by simp,AK _,[],Ah _,l⟩,?_⟩;rintro i m f H2 ⟨rfl,hi,ys,j,p⟩
 by_cases c:i<n
 ·exact .inr ⟨q i f ys H2 c p,fun x H3 y=>hs i f ys H2 x H3 c j p y⟩
 ·have e:i=n:=ω
  subst e;exact .inl ⟨o f ys H2 p,hd f ys H2 p⟩
def zI(c:Nat->St->List V->Hp->Prop)(j:c 0 σ [] (upd H1 D (.lst [])))(f:∀i σ ys H,c i σ ys H->SqL K H a xs)(hs:∀i σ ys H x,xs[i]?=some x->i<xs.length->ys.length<=i->c i σ ys H->g x σ H fun d l=>tc d l fun b h=>if b=true then te d h (d_ xs.length c D i d) else cR xs.length c i d h)(hd:∀σ ys H,c xs.length σ ys H->Q (.ref D) H):bW (di K a) g tc te σ H1 D Q:=by
 refine lH xs.length c j (fun σ ys H p=>⟨xs,f _ _ _ _ p,Ah _⟩) (fun i σ ys H hi p=>⟨xs,xs[i],f _ _ _ _ p,by simp[hi]⟩) (fun i σ ys H x H' hi hy p y=>?_) hd;obtain⟨e,y⟩:=y;subst e;exact hs i σ ys _ x (y xs (f _ _ _ _ p)) hi hy p
def yh(c:Nat->St->List V->Hp->Prop)(j:c 0 σ [] (upd H1 D (.lst [])))(f:∀i σ ys H,c i σ ys H->SqT K H a xs)(hs:∀i σ ys H x,xs[i]?=some x->i<xs.length->ys.length<=i->c i σ ys H->g x σ H fun d l=>tc d l fun b h=>if b=true then te d h (d_ xs.length c D i d) else cR xs.length c i d h)(hd:∀σ ys H,c xs.length σ ys H->Q (.ref D) H):bW (iA K a) g tc te σ H1 D Q:=by
 refine lH xs.length c j (fun σ ys H p=>⟨xs,f _ _ _ _ p,Ah _⟩) (fun i σ ys H hi p=>⟨xs,xs[i],f _ _ _ _ p,by simp[hi]⟩) (fun i σ ys H x H' hi hy p y=>?_) hd;obtain⟨e,y⟩:=y;subst e;exact hs i σ ys _ x (y xs (f _ _ _ _ p)) hi hy p
def yi{lo:Int}{n:Nat}(a:Nat->St->List V->Hp->Prop)(f:a 0 σ [] (upd H1 D (.lst [])))(hs:∀i σ ys H,i<n->ys.length<=i->a i σ ys H->g (.int (lo+i)) σ H fun c h=>tc c h fun b d=>if b=true then te c d (d_ n a D i c) else cR n a i c d)(hd:∀σ ys H,a n σ ys H->Q (.ref D) H):bW (gM lo n) g tc te σ H1 D Q:=by
 refine lH n a f (fun σ ys H p=>Ah _) (fun i σ ys H hi p=>hi) (fun i σ ys H x H' hi hy p y=>?_) hd;obtain⟨e,y⟩:=y;subst e y;exact hs i σ ys _ hi hy p
def En{e f:Addr}{ys:List V}(a:Nat->St->List V->Hp->Prop)(r:a 0 σ [] (upd H1 D (.lst [])))(c:∀i σ zs H,a i σ zs H->SqT K H e xs/\SqT K H f ys)(hs:∀i σ zs H p x y,xs[i]?=some x->ys[i]?=some y->i<min xs.length ys.length->zs.length<=i->a i σ zs H->H p=none->g (.ref p) σ (upd H p (.tup [x,y])) fun d s=>tc d s fun b h=>if b=true then te d h (d_ (min xs.length ys.length) a D i d) else cR (min xs.length ys.length) a i d h)(hd:∀σ zs H,a (min xs.length ys.length) σ zs H->Q (.ref D) H):bW (ti K e f) g tc te σ H1 D Q:=by
 refine lH (min xs.length ys.length) a r (fun σ zs H p=>⟨xs,ys,(c _ _ _ _ p).1,(c _ _ _ _ p).2,rfl⟩) (fun i σ zs H hi p=>⟨xs,ys,(c _ _ _ _ p).1,(c _ _ _ _ p).2,hi⟩) (fun i σ zs H v H' hi hy p y=>?_) hd;obtain⟨j,x,l,rfl,hp,rfl,o,q⟩:=y;exact hs i σ zs H j x l (o xs (c _ _ _ _ p).1) (q ys (c _ _ _ _ p).2) hi hy p hp
end
end L2
end
section
namespace Dk
open PySem PySem.Spec PyProof.Rows
def IsD(h:Heap)(d:Addr)(es:Array DictEntry)(ep:Nat):Prop:=∃o,h.get? d=some o/\o.ExactDict/\o.data=.dict es ep
def IsD.at{h h':Heap}{d:Addr}{es:Array DictEntry}{ep:Nat}(x:IsD h d es ep)(k:∀o,h.get? d=some o->h'.get? d=some o):IsD h' d es ep:=let ⟨o,ho,r⟩:=x;⟨o,k o ho,r⟩
def IsD.lt{h:Heap}{d:Addr}{es:Array DictEntry}{ep:Nat}(x:IsD h d es ep):d<h.objs.size:=let ⟨_,ho,_⟩:=x;Ao ho
section
variable{prog:Program}{w:World}{A:Around}{E:Ω}{s:Shared}{it d:Addr}{i ep:Nat}{es:Array DictEntry}
def IsD.typeIs(x:IsD s.heap d es ep):s.TypeIs (.ref d) "dict":=let ⟨o,ho,r⟩:=x;⟨o,ho,r.1.1⟩
def iter{Q:Ω}(hd:(d==AU)=false)(hm:IsD s.heap d es ep)(c:Q (.ref s⁻¹) {s with heap:=s.heap.push {cls:=.type "dict_keyiterator",data:=.fields #[.ref d,.int 0 0,.int es.size 0,.int ep 0]}}):wpAny (model prog w) A (pyIter (.ref d)) Q E s:=by
 have hT:=hm.typeIs;obtain⟨o,a,hc,b⟩:=id hm;refine wpAny_pyIter_slot hT PySem.F.slot_dict_iter (A0 PySem.F.slot_dict_iter hT PySem.F.entry_dict_iter ?_ (PySem.F.args_dict_iter_1 _));unfold Builtin.«dict.__iter__»;refine Aa ?_;unfold Builtin.Dict.dictSlotNone;refine Aa (wpAny_notOrdered_dict hT ?_);show wpAny _ _ (pure (Value.ref d)) _ _ s;refine Ac ?_;show wpAny _ _ (Builtin.Dict.showsAll d >>= _) _ _ s;unfold Builtin.Dict.showsAll;rw[if_neg (by rw[hd];exact Au)];refine Aa (Ac ?_);refine Aa (AH a b ?_);refine Aa (wpAny_dictEpoch a b ?_);refine Aa (Bj (Ac ⟨_,rfl,"dict_keyiterator",_,⟨_,Ar _ rfl,rfl⟩,PySem.F.slot_dict_keyiterator_next.lookup,?_⟩))
 simpa[rawInt] using c
def item{Q:Option Value->Shared->Prop}(a:s.heap.IsKeyIter it d i es.size ep)(hm:IsD s.heap d es ep)(hx:i<es.size)(h:∀h',h'.IsKeyIter it d (i+1) es.size ep->AR it s.heap h'->Q (some es[i].key) {s with heap:=h'}):wpAny (model prog w) A (pyNext (.ref it)) Q E s:=by
 obtain⟨o,b,hc,hd⟩:=id a;obtain⟨j,c,l,e⟩:=id hm;unfold pyNext;refine Aa (wpAny_attempt (wpAny_callSpecial?_slot (name:=Str.ofString "__next__") a.typeIs PySem.F.slot_dict_keyiterator_next
  (A0 PySem.F.slot_dict_keyiterator_next a.typeIs PySem.F.entry_dict_keyiterator_next ?_ (PySem.F.args_dict_keyiterator_next_1 _))))
 refine Aa (Ac ?_);refine Aa ?_;refine Aa ?_
 first|refine Aa (wpAny_typeNameOfWhole_keyiter a.typeIs (Ac ?_))|refine Aa (wpAny_typeNameOf_keyiter a.typeIs (Ac ?_))
 refine Aa (wpAny_fieldsOf b hd ?_);have g:Builtin.Dict_items.ownsTuple "dict_keyiterator"=false:=ξ
 simp only[g,Aj,if_false];show wpAny _ _ (if(Value.ref d==Value.none)=true then _ else _) _ _ s;rw[if_neg (show ¬((Value.ref d==Value.none)=true) from Au)];refine Aa (Ac ?_);refine Aa (AH c e ?_);rw[if_neg (by simp)];refine Aa (Ac ?_);refine Aa (wpAny_dictEpoch c e ?_);rw[if_neg (by simp)];refine Ac ?_;simp only[show ¬((i:Int)<0) from ω,if_false,Int.toNat_natCast,Array.getElem?_eq_getElem hx];refine Aa ?_
 first|refine Aa (wpAny_typeNameOfWhole_keyiter a.typeIs (Ac ?_))|refine Aa (wpAny_typeNameOf_keyiter a.typeIs (Ac ?_))
 refine Aa (wpAny_isOneOf_keyiter a.typeIs ?_);show wpAny _ _ (setField (.ref it) 1 (rawInt ((i:Int)+1)) >>= _) _ _ s;refine Aa (wpAny_setField b hd (by simp) ?_);have f:(s.heap.update it (Obj.mapFields (·.setIfInBounds 1 (rawInt ((i:Int)+1))))).IsKeyIter it d (i+1) es.size ep:=
  ⟨_,Heap.get?_update_self _ b (Obj.isFreed_of_fields (Obj.data_mapFields hd _)),(Obj.cls_mapFields ..).trans hc,by rw[Obj.data_mapFields hd];simp[rawInt]⟩
 refine Aa (AI ?_);refine Aa (wpAny_isOneOf_keyiter (s:={s with heap:=s.heap.update it (Obj.mapFields (·.setIfInBounds 1 (rawInt ((i:Int)+1))))}) f.typeIs ?_);show wpAny _ _ (pure es[i].key) _ _ _;exact Ac (Ac ⟨_,rfl,Ac (h _ f (AS ..))⟩)
def done{Q:Option Value->Shared->Prop}(i:A.handled=none)(c:s.heap.IsKeyIter it d es.size es.size ep)(hm:IsD s.heap d es ep)(j:∀h',Heap.ExtBut it s.heap h'->Q none {s with heap:=h'}):wpAny (model prog w) A (pyNext (.ref it)) Q E s:=by
 obtain⟨o,e,hc,hd⟩:=id c;obtain⟨l,f,p,g⟩:=id hm;unfold pyNext;refine Aa (wpAny_attempt (wpAny_callSpecial?_slot (name:=Str.ofString "__next__") c.typeIs PySem.F.slot_dict_keyiterator_next
  (A0 PySem.F.slot_dict_keyiterator_next c.typeIs PySem.F.entry_dict_keyiterator_next ?_ (PySem.F.args_dict_keyiterator_next_1 _))))
 refine Aa (Ac ?_);refine Aa ?_;refine Aa ?_
 first|refine Aa (wpAny_typeNameOfWhole_keyiter c.typeIs (Ac ?_))|refine Aa (wpAny_typeNameOf_keyiter c.typeIs (Ac ?_))
 refine Aa (wpAny_fieldsOf e hd ?_);have h:Builtin.Dict_items.ownsTuple "dict_keyiterator"=false:=ξ
 simp only[h,Aj,if_false];show wpAny _ _ (if(Value.ref d==Value.none)=true then _ else _) _ _ s;rw[if_neg (show ¬((Value.ref d==Value.none)=true) from Au)];refine Aa (Ac ?_);refine Aa (AH f g ?_);rw[if_neg (by simp)];refine Aa (Ac ?_);refine Aa (wpAny_dictEpoch f g ?_);rw[if_neg (by simp)];refine Ac ?_;simp only[show ¬((es.size:Int)<0) from ω,if_false,Int.toNat_natCast,Array.getElem?_eq_none (Ah es.size)];refine Aa ?_
 first|refine Aa (wpAny_typeNameOfWhole_keyiter c.typeIs (Ac ?_))|refine Aa (wpAny_typeNameOf_keyiter c.typeIs (Ac ?_))
 show wpAny _ _ (setField (.ref it) 0 .none >>= _) _ _ s;refine Aa (wpAny_setField e hd (by simp) ?_);show wpAny _ _ (newExc (.type "StopIteration") [] >>= _) _ _ _;refine Aa ?_;simp only[newExc,newTuple];refine Aa (Bj ?_ (by size_fits));refine Aa (m:=firstArgMember _ _) (wpAny_of_eq (a:=Value.none) (by first|rfl|(simp only[firstArgMember];rfl)) ?_);refine Bj ?_ (by size_fits);simp only[raiseNew];refine Aa (wpAny_handled ?_);rw[show A.in1.handled=none from i];refine Aa (Ac (wpAny_throw ?_));refine Aa (wpAny_isInstance (T:="StopIteration") (b:=true) ⟨_,Ar _ rfl,rfl⟩ isSubtype_stop ?_);exact Ac (j _ (((AS ..).extBut.push _).push _))
def walks(l:A.handled=none)(I d:Addr)(c:d≠I)(es:Array DictEntry)(ep:Nat):Walks prog w A I [I,d] [I] es.size (fun i v=>∃e,es[i]?=some e/\v=e.key) (fun i h=>h.IsKeyIter I d i es.size ep/\IsD h d es ep) where
 sub:=fun b hb=>by simp at hb ⊢;exact .inl hb
 frame:=fun i h h' st k=>⟨let ⟨o,ho,r⟩:=st.1;⟨o,k I (by simp) o ho,r⟩,st.2.at fun o e=>k d (by simp) o e⟩
 item:=fun i s Q E hi st a=>item st.1 st.2 hi fun h' g f=>a _ h' s.toks ⟨es[i],by simp[hi],rfl⟩ ⟨g,st.2.at fun o e=>(f.2 d c).trans e⟩ fun b o hb e=>(f.2 b (fun z=>hb (by simp[z]))).trans e
 done:=fun s Q E st a=>done l st.1 st.2 fun h' j=>a h' s.toks fun b o hb e=>j b o (fun z=>hb (by simp[z])) e
 self:=fun i s Q E st a=>wpAny_pyIter_keyiter st.1 a
def src(lo:(d==AU)=false):PySem.W.KdlSrc prog w "dict" d d es.size (fun i v=>∃e,es[i]?=some e/\v=e.key) (fun h=>IsD h d es ep) where
 type:=fun _ hm=>hm.typeIs
 there:=fun _ hm=>⟨hm.lt,hm.lt⟩
 keep:=fun _ _ hm hk=>hm.at fun o e=>hk d (.inl rfl) o e
 notList:=ξ
 notTuple:=ξ
 hint:=fun _ _ _ _ hm hq=>PySem.W.kdl_hint_dict hm.typeIs hq
 iter:=fun _ s a hm=>⟨_,_,(fun _ _ hq=>iter lo hm hq),walks a _ d (Ap hm.lt) es ep,⟨⟨_,Ar _ rfl,rfl,rfl⟩,hm.at fun o e=>Ad _ e⟩⟩
end
end Dk
namespace L2
open PySem PySem.Spec PyProof.Rows
section
variable{X:Cx}
def Eo{P:Program}{w:World}{k:Key}{u:Value}(h:(zo P w).is k u=true):RelV (kV k) u:=by
 rcases ax h with ⟨i,t,rfl,rfl⟩|⟨x,t,rfl,rfl⟩
 ·exact⟨t,rfl⟩
 ·exact⟨t,rfl⟩
def nX(hc:X.calm=true):bU X (.type "list") (fun xs H Q=>∃a kvs,xs=[.ref a]/\H a=some (.dT kvs)/\
  ∀(bs:List Addr),Paired (fun(p:List Key×V) b=>H b=some (.tup (p.1.map kV))) kvs bs->∀l,H l=none->Q (.ref l) (upd H l (.lst (bs.map V.ref)))):=by
 intro aa s σ H xs us Q I r h;obtain⟨a,kvs,rfl,hq,q⟩:=h;obtain⟨u,rfl,j⟩:=vals1 r;cases j;obtain⟨z,y,ys,c,o,es,ep,h1,h2,v,d,D⟩:=(show zC X.prog X.w H s.heap a (.dT kvs) from I.hok a _ hq);have f:es.size=kvs.length:=by
  have:=congrArg List.length d;rw[Ab,<-A7 c] at this
  simpa using this
 refine PySem.W.kdl_call (Dk.src (ep:=ep) (es:=es) y) (I.ok.hd hc) ⟨o,h1,h2,v⟩ (by rw[f];exact z) fun h' tk acc c' g e it=>?_;obtain⟨n1,n2⟩:=it;have x:Paired (fun(p:List Key×V) b=>H b=some (.tup (p.1.map kV))) kvs (ys.map (·.2.1)):=by
  have:∀{l:List (List Key×V)}{m:List (List Key×Addr×Value)},KT H l m->Paired (fun(p:List Key×V) b=>H b=some (.tup (p.1.map kV))) l (m.map (·.2.1)):=by
   intro l m q
   induction q with
   |nil=>exact .nil
   |cons hq t ih=>exact .cons hq.2.1 ih
  exact this c
 have A:acc.toList=(ys.map (·.2.1)).map Value.ref:=by
  apply List.ext_getElem?;intro i;have hy:ys.length=acc.size:=by rw[n1,f];exact(A7 c).symm
  by_cases hi:i<acc.size
  ·obtain⟨e',g1,g2⟩:=n2 i acc[i] (by simp[hi])
   have g3:es.toList[i]?=some e':=by simpa using g1
   rw[d,Ak] at g3;have g4:ys[i]?=some ys[i]:=by simp[hy,hi]
   rw[g4] at g3;simp only[Option.map_some,Option.some.injEq] at g3;simp only[Ak,g4,Option.map_some,AT,Array.getElem?_eq_getElem hi];rw[g2,<-g3]
   rfl
  ·have g1:acc.toList.length<=i:=by simp;omega
   have g2:((ys.map (·.2.1)).map Value.ref).length<=i:=by simp[hy];omega
   rw[List.getElem?_eq_none g1,List.getElem?_eq_none g2]
 have C:Vals ((ys.map (·.2.1)).map V.ref) acc.toList:=by
  rw[A];generalize ys.map (·.2.1)=bs
  induction bs with
  |nil=>exact .nil
  |cons b bs ih=>exact .cons rfl ih
 refine⟨.ref s⁻¹,_,I.laid g (Ah _) (show zC X.prog X.w _ h' _ (.lst ((ys.map (·.2.1)).map V.ref)) from⟨?_,acc.toList,c',C,by simpa using e⟩),rfl,q _ x _ (I.hok.fresh (Ah _))⟩;simp only[Ab];rw[<-A7 c];exact z
def tI(hc:X.calm=true):bU X (.type "list") (fun xs H Q=>∃a kvs,xs=[.ref a]/\H a=some (.dK kvs)/\∀l,H l=none->Q (.ref l) (upd H l (.lst (kvs.map fun kv=>kV kv.1)))):=by
 intro aa s σ H xs us Q I r h;obtain⟨a,kvs,rfl,hq,q⟩:=h;obtain⟨u,rfl,d⟩:=vals1 r;cases d;obtain⟨z,y,vs,b,dd⟩:=sD I.hok hq;obtain⟨ep,dd⟩:=dd.dictAt;have f:=b.length;refine PySem.W.kdl_call (PySem.W.kdl_dict (knd:=zo X.prog X.w) (kvs:=vs) (ep:=ep) y) (I.ok.hd hc) dd (by rw[<-f];exact z) fun h' tk acc c' c e it=>?_;obtain⟨n1,n2⟩:=it;have g:Vals (kvs.map fun kv=>kV kv.1) acc.toList:=by
  have key:∀{l:List (Key×V)}{m:List (Key×Value)}{as:List Value},KV l m->as.length=m.length->(∀(i:Nat) v,as[i]?=some v->∃k x,m[i]?=some (k,x)/\(zo X.prog X.w).is k v=true)->Vals (l.map fun kv=>kV kv.1) as:=by
   intro l m as q
   induction q generalizing as with
   |nil=>intro h1 _;cases as with
    |nil=>exact .nil
    |cons _ _=>simp at h1
   |@cons p q' ps qs hq t ih=>
    intro h1 h2;cases as with
    |nil=>simp at h1
    |cons v as=>
     obtain⟨k,x,g1,g2⟩:=h2 0 v rfl;simp only[List.getElem?_cons_zero,Option.some.injEq] at g1;refine .cons ?_ (ih (by simpa using h1) fun i v e=>by simpa using h2 (i+1) v (by simpa using e));have:p.1=k:=by rw[hq.1,g1]
     show RelV (kV p.1) v;rw[this];exact Eo g2
  exact key b (by simpa using n1) fun i v e=>n2 i v (by simpa using e)
 refine⟨.ref s⁻¹,_,I.laid c (Ah _) (show zC X.prog X.w _ h' _ (.lst (kvs.map fun kv=>kV kv.1)) from⟨?_,acc.toList,c',g,by simpa using e⟩),rfl,q _ (I.hok.fresh (Ah _))⟩
 simpa using z
end
end L2
end
section
namespace L2
open PySem PySem.Spec PyProof.Rows
def Tp(H:Hp)(a:Addr)(ps:List Int):Prop:=H a=some (.tup (ps.map V.int))
abbrev Tps(H:Hp)(as:List Addr)(pss:Ξ):Prop:=Paired (fun a ps=>Tp H a ps) as pss
def Same.tp{H H':Hp}{a:Addr}{ps:List Int}(e:Same H H')(h:Tp H a ps):Tp H' a ps:=e _ _ h
def Same.tps{H H':Hp}{as:List Addr}{pss:Ξ}(e:Same H H')(h:Tps H as pss):Tps H' as pss:=Paired.mapP h fun _ _ q=>e.tp q
def Same.new{H:Hp}{a:Addr}{o:HO}(h:H a=none):Same H (upd H a o):=fun b u e=>by rw[zh (zl e h)];exact e
def Same.then{H H1:Hp}{a:Addr}{o:HO}(e:Same H H1)(h:H a=none):Same H (upd H1 a o):=fun b u q=>by rw[zh (zl q h)];exact e b u q
def Tps.length{H:Hp}{as:List Addr}{pss:Ξ}(h:Tps H as pss):as.length=pss.length:=A7 h
def Tps.get{H:Hp}:∀{as:List Addr}{pss:Ξ}{i:Nat}{a:Addr},Tps H as pss->as[i]?=some a->∃ps,pss[i]?=some ps/\Tp H a ps
 |_,_,_,_,.nil,e=>by simp at e
 |_,_,0,_,.cons r _,e=>by simp at e;subst e;exact⟨_,rfl,r⟩
 |_,_,i+1,a,.cons _ t,e=>by
  obtain⟨u,h1,h2⟩:=Tps.get (i:=i) (a:=a) t (by simpa using e);exact⟨u,by simpa using h1,h2⟩
def Tps.snoc{H:Hp}{as:List Addr}{pss:Ξ}{a:Addr}{ps:List Int}(h:Tps H as pss)(q:Tp H a ps):Tps H (as++[a]) (pss++[ps]):=by
 induction h with
 |nil=>exact .cons q .nil
 |cons r t ih=>exact .cons r ih
def Tps.append{H:Hp}{as bs:List Addr}{pss a:Ξ}(h:Tps H as pss)(q:Tps H bs a):Tps H (as++bs) (pss++a):=by
 induction h with
 |nil=>exact q
 |cons r t ih=>exact .cons r ih
def Tps.take{H:Hp}:∀{as:List Addr}{pss:Ξ}(n:Nat),Tps H as pss->Tps H (as.take n) (pss.take n)
 |_,_,0,_=>.nil
 |_,_,_+1,.nil=>.nil
 |_,_,n+1,.cons r t=>.cons r (Tps.take n t)
def Tps.drop{H:Hp}:∀{as:List Addr}{pss:Ξ}(n:Nat),Tps H as pss->Tps H (as.drop n) (pss.drop n)
 |_,_,0,r=>r
 |_,_,_+1,.nil=>.nil
 |_,_,n+1,.cons _ t=>Tps.drop n t
def aD:∀{as:List Addr}{us:List Value},Vals (as.map V.ref) us->us=as.map Value.ref
 |[],_,.nil=>rfl
 |a::as,_,.cons r t=>by cases r;rw[aD t];rfl
def lJ{b:Type}(f:b->Addr):∀l:List b,Vals (l.map fun q=>V.ref (f q)) (l.map fun q=>Value.ref (f q))
 |[]=>.nil
 |a::l=>.cons rfl (lJ f l)
section
variable{X:Cx}
def yj{prog:Program}{w:World}{h:Heap}{c:Addr}{cs:List Value}{a:List Int}(hc:IsTup h c cs.toArray)(hi:IntsAre cs a):AJ (zo prog w) h (a.map Sum.inl) c:=by
 obtain⟨o,e,b,k,d⟩:=hc;refine⟨o,cs.toArray,k,e,b,d,?_⟩;have:∀{cs:List Value}{a:List Int},IntsAre cs a->ItemsAre (zo prog w) (a.map Sum.inl) cs:=by
  intro cs a hi
  induction hi with
  |nil=>exact .nil
  |cons n t h ih=>exact .cons (m_ prog w n t) ih
 simpa using this hi
def tK{ps a:List Int}:(ps.map Sum.inl:List Key)=a.map Sum.inl↔ps=a:=
 ⟨fun z=>(List.map_inj_right (f:=(Sum.inl:Int->Key)) (fun x y h=>Sum.inl.inj h)).mp z,fun z=>by rw[z]⟩
def Ep{aa:Ψ}{σ:St}{H:Hp}{s:Shared}{A:Around}{a b:Addr}{ps c:List Int}(I:Inv X aa σ H s)(g:Tp H a ps)(hb:Tp H b c)(hu:A.units<cLine):SeqAt.EqAt A s (.ref a) (.ref b) (decide (ps=c)):=by
 intro prog w E Q h;obtain⟨i,d,e,_⟩:=I.tuple (SqT.of g);obtain⟨j,f,p2,_⟩:=I.tuple (SqT.of hb);refine wpAny_eqBool_tuple (knd:=zo prog w) hu (yj e (intsAre_of d)) (yj p2 (intsAre_of f)) ?_;rw[show decide ((ps.map Sum.inl:List Key)=c.map Sum.inl)=decide (ps=c) from by simp only[tK]];exact h
def tM:R2:=fun x y H Q=>∃a b xs ys,x=.ref a/\y=.ref b/\H a=some (.tup xs)/\H b=some (.tup ys)/\xs.length+ys.length<=sizeLine/\∀p H',Same H H'->H' p=some (.tup (xs++ys))->Q (.ref p) H'
def nY:bw X (binaryOp .Add) tM:=by
 intro aa s σ H x y v u Q I p r h;obtain⟨a,b,xs,ys,rfl,rfl,e,hb,hz,q⟩:=h;cases p;cases r;obtain⟨E,c,f,_⟩:=I.tuple (SqT.of e);obtain⟨w,d,p2,_⟩:=I.tuple (SqT.of hb)
 by_cases hx:xs=[]
 ·subst hx
  have e1:=c.nil_iff.mpr rfl;subst e1;obtain⟨⟨cls,dd,data,A⟩,g,hc,n,hd⟩:=id f;obtain⟨⟨G,C,data2,D⟩,i,j,n2,l⟩:=id p2;simp only at hc hd j l;subst hc hd j l;exact concat_meets ⟨_,g,rfl⟩ ⟨_,i,rfl⟩ noFill_tuple_add seq_tuple_add PySem.F.slot_tuple_add PySem.F.entry_tuple_add (PySem.F.args_tuple_add_2 _ _)
   (tuple_addW0 a b (List.toArray []) w.toArray n n2 dd C A D (by simp)) ⟨g,i,.ref b,H,I,rfl,q b H (Same.refl H) (by simpa using hb)⟩
 ·refine HT.Dl f p2 (fun z=>hx (c.nil_iff.mp z)) (fun z=>⟨.ref a,H,I,rfl,q a H (Same.refl H) ?_⟩) (fun z=>?_) (by rw[<-c.length,<-d.length];exact hz)
  ·rw[d.nil_iff.mp z,List.append_nil];exact e
  ·have hf:=I.hok.fresh (Ah s⁻¹)
   refine⟨.ref s⁻¹,_,I.laid (t':=s.toks) (o:=.tup (xs++ys)) (fun b ob q=>Ad _ q) (Ah _) ?_,rfl,q _ _ (Same.new hf) za⟩;exact⟨by rw[AC];exact hz,_,c.append d,IsTup.new _ _⟩
def tR(neg:Bool)(K:Ae):R2:=fun x y H Q=>∃a l ps as pss,x=.ref a/\y=.ref l/\Tp H a ps/\SqL K H l (as.map V.ref)/\Tps H as pss/\Q (.bl (if neg then !decide (ps∈pss) else decide (ps∈pss))) H
def kf(H:Hp)(ps:List Int)(u:Value):Bool:=match u with
 |.ref b=>(match H b with|some (.tup xs)=>decide (xs=ps.map V.int)|_=>false)
 |_=>false
def Er{ps a:List Int}:(ps.map V.int:List V)=a.map V.int↔ps=a:=
 ⟨fun z=>(List.map_inj_right (f:=V.int) (fun x y h=>V.int.inj h)).mp z,fun z=>by rw[z]⟩
def yk{H:Hp}{b:Addr}{ps a:List Int}(h:Tp H b a):kf H ps (.ref b)=decide (a=ps):=by
 show(match H b with|some (.tup xs)=>decide (xs=ps.map V.int)|_=>false)=_;rw[show H b=some (.tup (a.map V.int)) from h];simp only[Er]
def Es{H:Hp}{ps:List Int}{as:List Addr}{pss:Ξ}(h:Tps H as pss):(as.map Value.ref).any (kf H ps)=decide (ps∈pss):=by
 induction h with
 |nil=>simp
 |@cons a qs as pss r t ih=>
  rw[AE,List.any_cons,ih,yk r]
  by_cases e:qs=ps
  ·subst e;simp
  ·have:¬ps=qs:=fun z=>e z.symm
   simp[e,this]
def Et{aa:Ψ}{σ:St}{H:Hp}{s:Shared}{A:Around}{a:Addr}{ps:List Int}(I:Inv X aa σ H s)(c:Tp H a ps)(hu:A.units<cLine):∀{as:List Addr}{pss:Ξ},Tps H as pss->∀u∈as.map Value.ref,SeqAt.EqAt A s u (.ref a) (kf H ps u):=by
 intro as pss h
 induction h with
 |nil=>intro u hu;simp at hu
 |@cons b qs as pss r t ih=>
  intro u hm;rw[AE] at hm;rcases List.mem_cons.mp hm with rfl|hm
  ·rw[yk r];exact Ep I r c hu
  ·exact ih u hm
def Eu(hu:X.A.in1.units<cLine):bw X (Bg .NotIn) (tR true X.K):=by
 intro aa s σ H x y v u Q I b c h;obtain⟨a,l,ps,as,pss,rfl,rfl,d,e,hp,q⟩:=h;cases b;cases c;obtain⟨g,r,f,hz⟩:=I.list e;obtain rfl:=aD r;refine SeqAt.notIn_listAt (kf H ps) f.isList (fun w hw=>Et I d hu hp w (by simpa using hw)) ⟨.bl _,H,I,rfl,?_⟩;rw[show(as.map Value.ref).toArray.any (kf H ps)=(as.map Value.ref).any (kf H ps) by simp,Es hp];exact q
def lK{aa:Ψ}{σ:St}{H:Hp}{s:Shared}{a:Addr}{ps:List Int}(I:Inv X aa σ H s)(c:Tp H a ps):Reads s.heap (.ref a) (.tuple (ps.map AV)) []:=by
 obtain⟨d,r,p,_⟩:=I.tuple (SqT.of c);obtain⟨o,b,hc,n,hd⟩:=id p;exact .tuple b hc hd ((PySem.W.ke_carried (intsAre_of r)).reads s.heap)
def Ev{aa:Ψ}{σ:St}{H:Hp}{s:Shared}(I:Inv X aa σ H s):∀{as:List Addr}{pss:Ξ},Tps H as pss->ReadsAll s.heap (as.map Value.ref) (pss.map fun ps=>PyData.tuple (ps.map AV)) []:=by
 intro as pss h
 induction h with
 |nil=>exact .nil
 |cons r t ih=>exact .cons (as:=[]) (bs:=[]) (lK I r) ih
def kg{aa:Ψ}{σ:St}{H:Hp}{s:Shared}{l:Addr}{as:List Addr}{pss:Ξ}(I:Inv X aa σ H s)(b:SqL X.K H l (as.map V.ref))(h:Tps H as pss):Reads s.heap (.ref l) (.list (pss.map fun ps=>PyData.tuple (ps.map AV))) [l]:=by
 obtain⟨c,r,p,_⟩:=I.list b;obtain rfl:=aD r;obtain⟨o,a,hc,n,hd⟩:=p.isList;exact .list a hc hd (by simpa using Ev I h)
def ym(ps:List Int):PyData.canLay0 (.tuple (ps.map AV))=true:=by simp[PyData.canLay0,PySem.W.ke_canLayAll0]
def yn(ps:List Int):PyData.depth (.tuple (ps.map AV))=1:=by simp[PyData.depth,PySem.W.ke_depthAll]
def nZ(ps:List Int):SeqAt.shaped (.tuple (ps.map AV))=true:=by
 simp[SeqAt.shaped,ym,yn]
def yo:∀pss:Ξ,PyData.canLayAll0 (pss.map fun ps=>PyData.tuple (ps.map AV))=true
 |[]=>rfl
 |ps::r=>by rw[AE,PyData.canLayAll0,ym,yo r];rfl
def yp:∀pss:Ξ,PyData.depthAll (pss.map fun ps=>PyData.tuple (ps.map AV))<=1
 |[]=>AK _
 |ps::r=>by rw[AE,PyData.depthAll,yn];exact Nat.max_le.mpr ⟨Ah _,yp r⟩
def lM(pss:Ξ):SeqAt.shaped (.list (pss.map fun ps=>PyData.tuple (ps.map AV)))=true:=by
 have:=yp pss;have e:PyData.depth (.list (pss.map fun ps=>PyData.tuple (ps.map AV)))<=64:=by rw[PyData.depth];omega
 unfold SeqAt.shaped;rw[decide_eq_true e,PyData.canLay0,yo]
 rfl
def n3:∀pss c:Ξ,sameAll (pss.map fun ps=>PyData.tuple (ps.map AV)) (c.map fun ps=>PyData.tuple (ps.map AV))=decide (pss=c)
 |[],[]=>by simp[sameAll]
 |[],_::_=>by simp[sameAll]
 |_::_,[]=>by simp[sameAll]
 |a::r,b::t=>by
  simp only[AE,sameAll,same,PySem.W.ke_sameAll,n3 r t]
  by_cases h:a=b<;>by_cases h':r=t<;>simp[h,h']
def n4(ps:List Int):(Shape.tuples .int).has (.tuple (ps.map AV))=true:=by simp[Shape.has]
def kh(pss:Ξ):(Shape.list (.tuples .int)).has (.list (pss.map fun ps=>PyData.tuple (ps.map AV)))=true:=by simp[Shape.has]
def gZ(neg:Bool)(K:Ae):R2:=fun x y H Q=>(∃a b ps c,x=.ref a/\y=.ref b/\Tp H a ps/\Tp H b c/\Q (.bl (if neg then !decide (ps=c) else decide (ps=c))) H) \/
 (∃l m as bs pss d,x=.ref l/\y=.ref m/\SqL K H l (as.map V.ref)/\Tps H as pss/\SqL K H m (bs.map V.ref)/\Tps H bs d/\Q (.bl (if neg then !decide (pss=d) else decide (pss=d))) H)
def Ew(hu:X.A.units+64<cLine):bw X (Bg .Eq) (gZ false X.K):=by
 intro aa s σ H x y v u Q I e f h;rcases h with ⟨a,b,ps,c,rfl,rfl,g,hb,q⟩|⟨l,m,as,bs,pss,d,rfl,rfl,i,hp,hm,hq,q⟩
 ·cases e
  cases f;refine eq_dataH_same (lK I g) (lK I hb) (nZ _) (nZ _) hu (SeqAt.noMix_of_shape (.tuples .int) rfl _ _ (n4 _) (n4 _)) ?_;rw[show same (.tuple (ps.map AV)) (.tuple (c.map AV))=decide (ps=c) from by simp only[same];exact PySem.W.ke_sameAll ps c];exact⟨.bl _,H,I,rfl,q⟩
 ·cases e
  cases f;refine eq_dataH_same (kg I i hp) (kg I hm hq) (lM _) (lM _) hu (SeqAt.noMix_of_shape (.list (.tuples .int)) rfl _ _ (kh _) (kh _)) ?_;rw[show same (.list (pss.map fun ps=>PyData.tuple (ps.map AV))) (.list (d.map fun ps=>PyData.tuple (ps.map AV)))=decide (pss=d) from by simp only[same];exact n3 pss d];exact⟨.bl _,H,I,rfl,q⟩
def n7(hu:X.A.units+64<cLine):bw X (Bg .NotEq) (gZ true X.K):=by
 intro aa s σ H x y v u Q I e f h;rcases h with ⟨a,b,ps,c,rfl,rfl,g,hb,q⟩|⟨l,m,as,bs,pss,d,rfl,rfl,i,hp,hm,hq,q⟩
 ·cases e
  cases f;refine ne_dataH_same (lK I g) (lK I hb) (nZ _) (nZ _) hu (SeqAt.noMix_of_shape (.tuples .int) rfl _ _ (n4 _) (n4 _)) ?_;rw[show same (.tuple (ps.map AV)) (.tuple (c.map AV))=decide (ps=c) from by simp only[same];exact PySem.W.ke_sameAll ps c];exact⟨.bl _,H,I,rfl,q⟩
 ·cases e
  cases f;refine ne_dataH_same (kg I i hp) (kg I hm hq) (lM _) (lM _) hu (SeqAt.noMix_of_shape (.list (.tuples .int)) rfl _ _ (kh _) (kh _)) ?_;rw[show same (.list (pss.map fun ps=>PyData.tuple (ps.map AV))) (.list (d.map fun ps=>PyData.tuple (ps.map AV)))=decide (pss=d) from by simp only[same];exact n3 pss d];exact⟨.bl _,H,I,rfl,q⟩
def zkX:V->List V->Hp->VK->Prop:=fun x vs H Q=>∃l xs i y,x=.ref l/\vs=[.int i,y]/\H l=some (.lst xs)/\0<=i/\i<=xs.length/\xs.length<sizeLine/\Q .non (upd H l (.lst (xs.take i.toNat++y::xs.drop i.toNat)))
def Ex:j6 X "list.insert" zkX:=by
 intro aa s σ H x vs v us Q I d f h;obtain⟨l,xs,i,y,rfl,rfl,b,o,hi,hz,q⟩:=h;cases d;obtain⟨u,c,rfl,g,j⟩:=f.two;obtain⟨t,rfl⟩:=g;obtain⟨z,a,n,r,p,e⟩:=I.lstM b;have w:sizeLine<2 ^ 62:=by rw[sizeLine_eq];decide
 have hf:Builtin.List.listFitsIndex i=true:=by
  unfold Builtin.List.listFitsIndex;simp only[AN,decide_eq_true_eq];constructor<;>omega
 refine call_meets F.slot_list_insert ⟨_,e,rfl⟩ F.entry_list_insert (F.args_list_insert_3 _ _ _) (PySem.AutoSeq1.list_insert_list_int_val_1 l a.toArray n i t c (by simp[hf]) (by rw[Ai];omega)) ⟨e,?_⟩;refine⟨.non,_,I.lset (its':=a.take i.toNat++c::a.drop i.toNat) (t':=s.toks) b e ?_ ((r.take _).append (.cons j (r.drop _))) ?_,rfl,q⟩
 ·have hk:(if i<0 then(i+(a.toArray.size:Int)).toNat else min i.toNat a.toArray.size)=i.toNat:=by
   rw[if_neg ω,Ai];omega
  dsimp only;rw[hk];simp;exact Ax (by rw[List.length_drop];exact Ah _)
 ·rw[AC,Aw,AM,List.length_drop]
  omega
def Ey:bU X (.type "int") (fun xs H Q=>∃x n,xs=[.str x]/\PySem.intText? x=some n/\x.length<=640/\Q (.int n) H):=by
 intro aa s σ H xs us Q I r h;obtain⟨x,n,rfl,a,b,q⟩:=h;obtain⟨u,rfl,t,rfl⟩:=vals1 r;exact PySem.W.KIN.call_text a b ⟨.int n,H,I.tok _,⟨_,rfl⟩,q⟩
end
section
variable{X:Cx}{aa:Ψ}{σ:St}{H:Hp}{s:Shared}
def tT{A:Around}(h:A.units+64<cLine):A.in1.in1.units<cLine:=by show A.units+1+1<cLine;omega
def in1_units{A:Around}(h:A.units+64<cLine):A.in1.units<cLine:=by show A.units+1<cLine;omega
def t1:bU X (.builtin "sorted") (fun xs H Q=>∃(l:Addr)(ns:List Int),xs=[.ref l]/\SqL X.K H l (ns.map V.int)/\ns.length<64/\∀(D:Addr)(f:List Int),f.Perm ns->f.Pairwise (·<=·)->H D=none->Q (.ref D) (upd H D (.lst (f.map V.int)))):=by
 intro aa s σ H xs us Q I r h;obtain⟨l,ns,rfl,hq,x,q⟩:=h;obtain⟨u,rfl,y⟩:=vals1 r;cases y;obtain⟨d,j,z,hz⟩:=I.list hq;have hi:IntsAre d ns:=intsAre_of j;have a:=j.length;rw[Ab] at a hz;refine aF.sH (ls:=ns.map fun n=>[n]) (good:=fun _=>True) z.isList (aF.x6 hi) (fun _ _=>trivial) ω ω fun g b=>?_;obtain⟨ps,hp,b,hs⟩:=b;have all:∀p∈ps,∃n t,p.1=[n]/\p.2=Value.int n t:=fun p v=>by
  obtain⟨i,e⟩:=List.mem_iff_getElem?.mp (hp.mem_iff.mp v);rw[aF.aW,Ak] at e;cases e1:ns[i]? with
  |none=>rw[e1] at e;simp at e
  |some n=>
   obtain⟨t,e2⟩:=hi.get i n e1;rw[e1,e2] at e;simp only[Option.map_some,Option.bind_some,Option.some.injEq] at e;subst e;exact⟨n,t,rfl,rfl⟩
 have A:∀ps:List (List Int×Value),(∀p∈ps,∃n t,p.1=[n]/\p.2=Value.int n t)->Vals ((ps.map fun p=>p.1.headD 0).map V.int) (ps.map (·.2)):=by
  intro ps
  induction ps with
  |nil=>intro _;exact .nil
  |cons p ps ih=>
   intro h;obtain⟨n,t,e1,e2⟩:=h p AB;refine .cons ?_ (ih fun q hq=>h q (Ay _ hq));show RelV (V.int (p.1.headD 0)) p.2;rw[e1,e2];exact⟨t,rfl⟩
 have o:(ps.map fun p=>p.1.headD 0).Perm ns:=by
  have h1:=hp.map (fun p:List Int×Value=>p.1.headD 0);have e:((ns.map fun n=>[n]).zip d).map (fun p:List Int×Value=>p.1.headD 0)=ns:=by
   rw[show(fun p:List Int×Value=>p.1.headD 0)=(fun l:List Int=>l.headD 0) ∘ Prod.fst from rfl,<-Am,List.map_fst_zip (by rw[Ab];omega),Am];exact List.map_id' ns
  rw[e] at h1;exact h1
 have C:(ps.map fun p=>p.1.headD 0).Pairwise (·<=·):=by
  rw[AW];refine hs.imp_of_mem fun{p q} h1 h2 c=>?_;obtain⟨n,t,e1,_⟩:=all p h1;obtain⟨m,t',e2,_⟩:=all q h2;rw[e1,e2,HT.zv] at c;rw[e1,e2];show n<=m
  by_cases e:m=n
  ·omega
  ·rw[if_neg e] at c
   have:=of_decide_eq_false c;omega
 obtain⟨e,he⟩:=sortedAll_at s.heap d g;refine⟨.ref (s⁻¹+1),_,I.laid (t':=s.toks) (fun _ _=>sortedAll_old) (Nat.le_succ _) (show zC X.prog X.w _ _ _ (.lst ((ps.map fun p=>p.1.headD 0).map V.int)) from⟨?_,g.toList,e,?_,?_⟩),rfl,q _ _ o C (I.hok.fresh (Nat.le_succ _))⟩
 ·rw[Ab,o.length_eq];exact hz
 ·rw[b];exact A ps all
 ·simpa using he
def lN(H:Hp)(p:Addr)(l:List Int):Prop:=∃n b ps,l=n::ps/\H p=some (.tup [.int n,.ref b])/\Tp H b ps
def yq{p:Addr}{l:List Int}(I:Inv X aa σ H s)(h:lN H p l):aF.IsPr s.heap (.ref p) l:=by
 obtain⟨n,b,ps,rfl,h1,h2⟩:=h;obtain⟨g,a,c,_⟩:=I.tuple (SqT.of (K:=X.K) h1);obtain⟨u,i,rfl,⟨t,rfl⟩,d⟩:=vals2 a;cases d;obtain⟨e,f,p2,_⟩:=I.tuple (SqT.of (K:=X.K) h2);exact⟨p,b,n,t,e,ps,rfl,rfl,c,p2,intsAre_of f⟩
def Ez{h h':Heap}{u:Value}{l:List Int}(k:∀b o,h.get? b=some o->h'.get? b=some o)(x:aF.IsPr h u l):aF.IsPr h' u l:=by
 obtain⟨a,b,n,t,d,ps,e1,e2,⟨o,e,hc⟩,⟨o',c,f⟩,i⟩:=x;exact⟨a,b,n,t,d,ps,e1,e2,⟨o,k _ _ e,hc⟩,⟨o',k _ _ c,f⟩,i⟩
def jB{a b:Type}{R:a->b->Prop}{l:List a}{m:List b}(p:Paired R l m):∀(i:Nat) x y,l[i]?=some x->m[i]?=some y->R x y:=by
 induction p with
 |nil=>intro i x y h;simp at h
 |cons r t ih=>
  intro i x y h1 h2;cases i with
  |zero=>simp at h1 h2;subst h1 h2;exact r
  |succ i=>exact ih i x y (by simpa using h1) (by simpa using h2)
def addrOf:Value->Addr
 |.ref a=>a
 |_=>0
def EA(hu:X.A.units+64<cLine):bU X (.builtin "sorted") (fun xs H Q=>∃(l:Addr)(as:List Addr)(ls:Ξ),xs=[.ref l]/\SqL X.K H l (as.map V.ref)/\Paired (lN H) as ls/\ls.length<64/\
  ∀(D:Addr)(j:List (List Int×Addr)),j.Perm (ls.zip as)->j.Pairwise (fun a b=>HT.lexLt b.1 a.1=false)->H D=none->Q (.ref D) (upd H D (.lst (j.map fun q=>V.ref q.2)))):=by
 intro aa s σ H xs us Q I r h;obtain⟨l,as,ls,rfl,hq,hp,z,q⟩:=h;obtain⟨u,rfl,C⟩:=vals1 r;cases C;obtain⟨J,v,E,hz⟩:=I.list hq;have c:=v.length;obtain rfl:=aD v;rw[Ab] at c hz;have F:=A7 hp;have G:∀h:Heap,(∀b o,s.heap.get? b=some o->h.get? b=some o)->∀(i:Nat) u l,(as.map Value.ref)[i]?=some u->ls[i]?=some l->aF.IsPr h u l:=fun h hk i u l h1 h2=>by
  rw[Ak] at h1;cases e:as[i]? with
  |none=>rw[e] at h1;simp at h1
  |some a=>
   rw[e] at h1;obtain rfl:=Al h1;exact Ez hk (yq I (jB hp i a l e h2))
 refine aF.sH (ls:=ls) (good:=fun h=>∀b o,s.heap.get? b=some o->h.get? b=some o) E.isList (aF.x9 (by rw[Ab];exact F) (tT hu) ⟨s.heap,fun _ _ e=>e⟩ G) (fun h' hk=>hk) (by rw[Ab];exact hz) (by rw[Ab];omega) fun d f=>?_;obtain⟨ps,x,f,hs⟩:=f;have all:∀p∈ps,p.2=Value.ref (addrOf p.2):=fun p g=>by
  have:=(List.of_mem_zip (x.mem_iff.mp g:(p.1,p.2)∈ls.zip (as.map Value.ref))).2;obtain⟨a,_,e⟩:=List.mem_map.mp this;rw[<-e];rfl
 have y:(ps.map fun p=>(p.1,addrOf p.2)).Perm (ls.zip as):=by
  have h1:=x.map (fun p:List Int×Value=>(p.1,addrOf p.2));have e:(ls.zip (as.map Value.ref)).map (fun p:List Int×Value=>(p.1,addrOf p.2))=ls.zip as:=by
   rw[List.zip_map_right,Am];exact(AO fun p _=>rfl).trans (List.map_id' _)
  rw[e] at h1;exact h1
 obtain⟨e,he⟩:=sortedAll_at s.heap (as.map Value.ref) d;have ex:d.toList=((ps.map fun p=>(p.1,addrOf p.2)).map fun q=>Value.ref q.2):=by
  rw[f,Am];exact AO fun p g=>all p g
 refine⟨.ref (s⁻¹+1),_,I.laid (t':=s.toks) (fun _ _=>sortedAll_old) (Nat.le_succ _) (show zC X.prog X.w _ _ _ (.lst ((ps.map fun p=>(p.1,addrOf p.2)).map fun q=>V.ref q.2)) from⟨?_,d.toList,e,?_,?_⟩),rfl,q _ _ y ?_ (I.hok.fresh (Nat.le_succ _))⟩
 ·rw[Ab,y.length_eq,List.length_zip];omega
 ·rw[ex]
  exact lJ (fun q:List Int×Addr=>q.2) _
 ·simpa using he
 ·rw[AW];exact hs
def n_:Sp:=fun vs H Q _=>∃a ps,vs=[.ref a]/\Tp H a ps/\∀p,H p=none->Q (.ref p) (upd H p (.tup [.int ps.length,.ref a]))
def og{b:Addr}(h:a' X aa H b):∀c∈[b],a' X aa H c:=fun c hc=>by rw[List.mem_singleton.mp hc];exact h
def lO{H':Hp}{b:Addr}(f:a' X aa H b)(a:H' b=none):a' X aa H' b:=⟨a,f.2⟩
def oh{b:Addr}(I:Inv X aa σ H s)(f:a' X aa H b):b∉frs X.stack:=fun hb=>by
 rcases List.mem_cons.mp (I.stkSub b hb) with e|e
 ·exact f.2.1 e
 ·exact f.2.2.1 e
def EC{k:Nat}{f l:Addr}{fd:FuncData}{as:List Addr}{pss:Ξ}{x:Str}{Q:Ω}(F:FnOk X.prog X.w X.K X.mg X.base aC k f fd [x] n_)(hr:Room (k+2) X.A)(hb:Binds X.K fd [x] [])(I:Inv X aa σ H s)(hl:SqL X.K H l (as.map V.ref))(ht:Tps H as pss)(h64:pss.length<64)(h:∀D H'(C:List (List Int×Addr)) s',Inv X aa σ H' s'->Same H H'->H D=none->H' D=some (.lst (C.map fun q=>V.ref q.2))->C.Perm (pss.zip as)->
   C.Pairwise (fun a b=>HT.lexLt ((b.1.length:Int)::b.1) ((a.1.length:Int)::a.1)=false)->Q (.ref D) s'):
  wpAny (model X.prog X.w) X.A (call (.builtin "sorted") [.ref l] [(Str.ofString "key",.ref f)]) Q X.xe s:=by
 have hu:X.A.units+64<cLine:=hr.units;obtain⟨ag,r1,p1,hz⟩:=I.list hl;have Y:=r1.length;obtain rfl:=aD r1;have aM:=ht.length;rw[Ab] at Y hz;have O:(as.map Value.ref).length<=sizeLine:=by rw[Ab];exact hz
 generalize hvs:as.map Value.ref=vs at p1 O;have lL:vs.length=as.length:=by rw[<-hvs,Ab]
 refine call_function_entry_kw kind_sorted plain_sorted entry_sorted (ksk_s1 _ _) ?_;unfold Builtin.«sorted»;refine Aa (m:=checkCount "sorted" 1 1 _) (Ac ?_);refine Aa (collect_list p1.isList ?_ O);refine Aa (wpAny_newList ?_ O);have hsz:((s.heap.push (seqObj "list" #[] 0)).update s⁻¹ (AA (·++vs.toArray))).objs.size=s⁻¹+1:=by
  rw[A4,size_push']
 have g:(((s.heap.push (seqObj "list" #[] 0)).update s⁻¹ (AA (·++vs.toArray))).push (seqObj "list" vs.toArray 0)).get? (s⁻¹+1)=some (seqObj "list" vs.toArray 0):=by
  rw[<-hsz];exact Ar _ rfl
 have keep:∀b o,s.heap.get? b=some o->(((s.heap.push (seqObj "list" #[] 0)).update s⁻¹ (AA (·++vs.toArray))).push (seqObj "list" vs.toArray 0)).get? b=some o:=fun b o q=>by
  have J:b<s⁻¹:=Ao q;rw[Heap.get?_push_ne _ _ _ (by rw[hsz];exact Ap (Nat.lt_succ_of_lt J)),Heap.get?_update_ne _ _ _ _ (Ap J),Heap.get?_push_ne _ _ _ (Ap J)];exact q
 show wpAny _ _ _ _ _ {s with heap:=((s.heap.push (seqObj "list" #[] 0)).update s⁻¹ (AA (·++vs.toArray))).push (seqObj "list" vs.toArray 0)};rw[hsz];generalize hA:((s.heap.push (seqObj "list" #[] 0)).update s⁻¹ (AA (·++vs.toArray))).push (seqObj "list" vs.toArray 0)=d at g keep ⊢;have I1:Inv X aa σ H {s with heap:=d}:=I.kept (t':=s.toks) keep;have P:a' X aa H (s⁻¹+1):=I.fpOk (Nat.le_succ _) (I.hok.fresh (Nat.le_succ _));generalize hD:s⁻¹+1=D at g P ⊢;have n9:D<d.objs.size:=Ao g;refine Aa (AI (wpAny_call_entry_kw slot_list_sort ⟨_,g,rfl⟩ entry_list_sort ?body (ksk_l1 _ _)))
 case body=>
  show wpAny (model X.prog X.w) X.A.in1.in1 (Builtin.«list.sort» ⟨[.ref D],[(Str.ofString "key",.ref f)]⟩) _ _ _;rw[ksk_t1];unfold ksk_tree;refine Aa (listItems_at g rfl ?_);refine Aa (listUpdate_at g rfl ?_ (by rw[Ai];exact O) (AK _));obtain⟨e1,cT⟩:∃e1,(d.update D (AA fun _=>(#[]:Array Value))).get? D=some (seqObj "list" #[] e1):=⟨_,get?_update_seq g fun _=>#[]⟩;refine Aa (seqEpoch_at cT rfl ?_);refine Aa (wpAny_newTuple ?_ (by show vs.length<=_;exact O));refine Aa (wpAny_newList ?_ (AK _));refine AI ?_;have I2:Inv X aa σ H {s with heap:=d.update D (AA fun _=>(#[]:Array Value))}:=
   Inv.turneds (s:={s with heap:=d}) (t':=s.toks) (ch:=[D]) I1 (og P) fun b o hb q=>by rw[Heap.get?_update_ne _ _ _ _ (fun z=>hb (by simp[z]))];exact q
  have I3:Inv X aa σ H {s with heap:=((d.update D (AA fun _=>(#[]:Array Value))).push (seqObj "tuple" vs.toArray 0))}:=I2.kept (t':=s.toks) fun b u q=>Ad _ q;have gI:a' X aa H ((d.update D (AA fun _=>(#[]:Array Value))).push (seqObj "tuple" vs.toArray 0)).objs.size:=I3.fpOk (Ah _) (I3.hok.fresh (Ah _));have kO:((d.update D (AA fun _=>(#[]:Array Value))).push (seqObj "tuple" vs.toArray 0)).objs.size≠D:=by
   rw[size_push',A4];omega
  have I4:Inv X aa σ H {s with heap:=(((d.update D (AA fun _=>(#[]:Array Value))).push (seqObj "tuple" vs.toArray 0)).push (seqObj "list" #[] 0))}:=I3.kept (t':=s.toks) fun b u q=>Ad _ q;have oD:(((d.update D (AA fun _=>(#[]:Array Value))).push (seqObj "tuple" vs.toArray 0)).push (seqObj "list" #[] 0)).get? ((d.update D (AA fun _=>(#[]:Array Value))).push (seqObj "tuple" vs.toArray 0)).objs.size=some (seqObj "list" #[] 0):=Ar _ rfl;have bC:(((d.update D (AA fun _=>(#[]:Array Value))).push (seqObj "tuple" vs.toArray 0)).push (seqObj "list" #[] 0)).get? D=some (seqObj "list" #[] e1):=Ad _ (Ad _ cT);show wpAny (model X.prog X.w) X.A.in1.in1 (ksk_rest D (.ref f) false vs.toArray e1 (.ref ((d.update D (AA fun _=>(#[]:Array Value))).push (seqObj "tuple" vs.toArray 0)).objs.size)) _ _ {s with heap:=((d.update D (AA fun _=>(#[]:Array Value))).push (seqObj "tuple" vs.toArray 0)).push (seqObj "list" #[] 0)};generalize ((d.update D (AA fun _=>(#[]:Array Value))).push (seqObj "tuple" vs.toArray 0)).objs.size=kS at *;generalize ((d.update D (AA fun _=>(#[]:Array Value))).push (seqObj "tuple" vs.toArray 0)).push (seqObj "list" #[] 0)=oA at *;unfold ksk_rest;refine Aa (wpAny_rule ?_)
  first
   |rw[List.forIn_toArray]
   |(rw[<-Array.forIn_toList];simp only[List.toList_toArray])
  refine Aa (ksk_fold (fun i s'=>∃y E e ks,Inv X aa σ y s'/\Same H y/\y D=none/\y kS=none/\s'.heap.get? kS=some (seqObj "list" E e)/\s'.heap.get? D=some (seqObj "list" #[] e1)/\E.toList=ks.map Value.ref/\ks.length=i/\
    ∀(j:Nat) p,ks[j]?=some p->∃a ps,as[j]?=some a/\pss[j]?=some ps/\y p=some (.tup [.int ps.length,.ref a])) vs 0 _
   ⟨H,#[],0,[],I4,Same.refl H,P.1,gI.1,oD,bC,rfl,rfl,fun j p e=>by simp at e⟩ ?step ?done)
  case step=>
   rintro j v s' hv ⟨y,E,e,ks,Ik,M,N,S,T,na,df,G,bI⟩;simp only[Nat.zero_add] at G ⊢;have cz:j<as.length:=by rw[<-lL];exact(List.getElem?_eq_some_iff.mp hv).1
   have W:as[j]?=some as[j]:=Af cz;obtain⟨ps,c8,dM⟩:=ht.get W;have ev:v=.ref as[j]:=by
    rw[<-hvs,Ak,W] at hv;exact(Al hv).symm
   subst ev;refine Aa (wpAny_attempt (wpAny_call (Bc (F.run X.A.in1.in1 X.stack s' y ⟨[.ref as[j]],[]⟩ [.ref as[j]] [.ref as[j]] (fun v H'=>∃p,v=.ref p/\y p=none/\H'=upd y p (.tup [.int ps.length,.ref as[j]])) E0
    (Room.in1 (Room.in1 hr)) Ik.env0.in1.in1 (hb s' [.ref as[j]] Ik.kIn rfl) (.cons rfl .nil) ⟨as[j],ps,rfl,M.tp dM,fun p hp=>⟨p,rfl,hp,rfl⟩⟩) fun r L hq=>?_)))
   cases r with
   |error e=>exact Be hq
   |ok fl=>
    cases fl with
    |next=>exact Be hq
    |brk=>exact Be hq
    |cont=>exact Be hq
    |ret u=>
     obtain⟨v,H',os,U,un,hok,ru,p,rfl,hp,rfl⟩:=hq;cases ru;have I5:Inv X aa σ (upd y p (.tup [.int ps.length,.ref as[j]])) L:=Ik.call' os un hok U (fun b z=>nomatch z);have fD:=lO P N;have fK:=lO gI S;have mL:=un.keep D _ na N (oh Ik fD) (by simp);have kL:=un.keep kS _ T S (oh Ik fK) (by simp);have gF:=un.free D _ na N (by simp);have qa:=un.free kS _ T S (by simp)
     try dsimp only
     have hkz:E.size=j:=by rw[<-AQ,df,Ab,G]
     obtain⟨c2,cQ⟩:∃c2,(L.heap.update kS (AA (·.push (.ref p)))).get? kS=some (seqObj "list" (E.push (.ref p)) c2):=⟨_,get?_update_seq kL (·.push (.ref p))⟩;have s1:=AS L.heap kS (AA (·.push (.ref p)));have vd:=lO gI qa;have I6:Inv X aa σ (upd y p (.tup [.int ps.length,.ref as[j]])) {L with heap:=L.heap.update kS (AA (·.push (.ref p)))}:=
      I5.turneds (t':=L.toks) (ch:=[kS]) (og vd) fun b o hb q=>(s1.2 b (fun z=>hb (by simp[z]))).trans q
     refine Aa (listUpdate_at kL rfl ?_ ω (AF (Nat.le_of_eq (Array.size_push ..)) ω));refine Ac ⟨rfl,_,E.push (.ref p),c2,ks++[p],I6,M.then (by exact M.free hp),gF,qa,cQ,(s1.2 D kO.symm).trans mL,by rw[Array.toList_push,df,Av];rfl,by rw[AC,G];rfl,fun i p' e'=>?_⟩
     by_cases hi:i<ks.length
     ·rw[List.getElem?_append_left hi] at e'
      obtain⟨a,fz,x1,x2,x3⟩:=bI i p' e';exact⟨a,fz,x1,x2,by rw[zh (zl x3 hp)];exact x3⟩
     ·rw[List.getElem?_append_right ω] at e'
      have h0:i-ks.length=0:=by
       rcases Nat.eq_zero_or_pos (i-ks.length) with z|z
       ·exact z
       ·rw[List.getElem?_eq_none (by simp only[Aw,List.length_nil];omega)] at e';cases e'
      rw[h0] at e';obtain rfl:p=p':=by simpa using e'
      have hij:i=j:=ω
      subst hij;exact⟨_,ps,W,c8,za⟩
  case done=>
   rintro s' ⟨y,E,e,ks,Ik,M,N,S,T,na,df,G,bI⟩;simp only[Nat.zero_add] at G
   try dsimp only
   refine Aa (listItems_at T rfl ?_);unfold ksk_end
   try dsimp only
   simp only[Aj,if_false];have rA:E=(ks.map Value.ref).toArray:=by rw[<-df,Array.toArray_toList]
   subst rA;have ko:∀(i:Nat) u l,(ks.map Value.ref)[i]?=some u->(pss.map fun ps=>(ps.length:Int)::ps)[i]?=some l->aF.IsPr s'.heap u l:=fun i u l h1 h2=>by
    rw[Ak] at h1 h2;cases ek:ks[i]? with
    |none=>rw[ek] at h1;simp at h1
    |some p=>
     obtain⟨a,ps,x1,x2,x3⟩:=bI i p ek;rw[ek] at h1;rw[x2] at h2;obtain rfl:=Al h1;obtain rfl:=Al h2;obtain⟨fz,y1,y2⟩:=ht.get x1;rw[x2] at y1;obtain rfl:=Al y1;exact yq Ik ⟨_,a,ps,rfl,x3,M.tp y2⟩
   refine aF.ya (us:=ks.map Value.ref) (vs:=vs) (ls:=pss.map fun ps=>(ps.length:Int)::ps) (good:=fun h=>h=s'.heap) (aF.x9 (by rw[Ab,Ab,G,lL];exact aM) (tT hu) ⟨_,rfl⟩ (by rintro h rfl;exact ko)) (by rw[Ab,G]) ω rfl fun af ho hst hf=>?_;refine aF.yb (ls:=pss.map fun ps=>(ps.length:Int)::ps) (vs:=vs) T na kO (by rw[Ai,Ab];omega) ho hst O hf fun h' a9 c kk gm ul iV nh=>⟨_,rfl,?_⟩;refine Ac ⟨_,rfl,?_⟩;obtain⟨ps,bV,c0,hs⟩:=iV;subst hvs;have I7:Inv X aa σ y {s' with heap:=h'}:=Ik.turneds (t':=s'.toks) (ch:=[kS,D]) (fun b hb=>by
     simp only[List.mem_cons,List.not_mem_nil,or_false] at hb;rcases hb with rfl|rfl
     ·exact lO gI S
     ·exact lO P N) fun b o hb q=>kk b o (fun z=>hb (by simp[z])) (fun z=>hb (by simp[z])) q
   have all:∀p∈ps,∃a C,p.2=Value.ref a/\p.1=((C:List Int).length:Int)::C:=fun p bd=>by
    obtain⟨h1,h2⟩:=List.of_mem_zip (bV.mem_iff.mp bd:(p.1,p.2)∈_);obtain⟨a,_,W⟩:=List.mem_map.mp h2;obtain⟨C,_,eq⟩:=List.mem_map.mp h1;exact⟨a,C,W.symm,eq.symm⟩
   have pm:(ps.map fun p=>(p.1.tail,addrOf p.2)).Perm (pss.zip as):=by
    have h1:=bV.map (fun p:List Int×Value=>(p.1.tail,addrOf p.2));have e:((pss.map fun ps=>(ps.length:Int)::ps).zip (as.map Value.ref)).map (fun p:List Int×Value=>(p.1.tail,addrOf p.2))=pss.zip as:=by
     rw[List.zip_map,Am];exact(AO fun p _=>rfl).trans (List.map_id' _)
    rw[e] at h1;exact h1
   have ex:a9.toList=((ps.map fun p=>(p.1.tail,addrOf p.2)).map fun q=>Value.ref q.2):=by
    rw[c0,Am];refine AO fun p bd=>?_;obtain⟨a,C,e1,_⟩:=all p bd;show p.2=Value.ref (addrOf p.2);rw[e1];rfl
   have vv:Vals ((ps.map fun p=>(p.1.tail,addrOf p.2)).map fun q=>V.ref q.2) a9.toList:=by
    rw[ex];exact lJ (fun q:List Int×Addr=>q.2) _
   obtain⟨f0,f1,f2,f3,f4,f5⟩:=P;have mU:X.s₀⁻¹<=D:=by rw[<-hD];exact AF I.sz (Nat.le_succ _)
   have I8:Inv X aa σ (upd y D (.lst ((ps.map fun p=>(p.1.tail,addrOf p.2)).map fun q=>V.ref q.2))) {s' with heap:=h'}:=by
    refine I7.adopt N mU f1 f4 f5 ⟨?_,a9.toList,c,vv,?_⟩
    ·rw[Ab,pm.length_eq,List.length_zip];omega
    ·simpa using gm
   refine h D _ _ _ I8 (M.then f0) f0 za pm ?_;rw[AW];refine hs.imp_of_mem fun{p q} h1 h2 h3=>?_;obtain⟨_,C,_,e1⟩:=all p h1;obtain⟨_,vD,_,e2⟩:=all q h2;rw[e1,e2] at h3;rw[e1,e2];exact h3
end
section
variable{X:Cx}{a:Expr}{ta:TA}{p p2 pos gN:Pos}{k:Nat}{f:Addr}{fd:FuncData}{x y:Str}
def ED(K:Ae)(ta:TA):TE:=fun σ H Q=>ta σ H fun vs H1=>∃(l:Addr)(as:List Addr)(pss:Ξ),vs=[.ref l]/\SqL K H1 l (as.map V.ref)/\Tps H1 as pss/\pss.length<64/\
 ∀D H2(c:List (List Int×Addr)),Same H1 H2->H1 D=none->H2 D=some (.lst (c.map fun q=>V.ref q.2))->c.Perm (pss.zip as)->c.Pairwise (fun a b=>HT.lexLt ((b.1.length:Int)::b.1) ((a.1.length:Int)::a.1)=false)->Q (.ref D) H2
def EE(F:FnOk X.prog X.w X.K X.mg X.base aC k f fd [x] n_)(hr:Room (k+2) X.A)(hb:Binds X.K fd [x] [])(E:Gl X "sorted")(hm:X.mg "sorted"=none)(G:A5 "sorted"=some (.builtin "sorted"))(J:Gl X y)(L:X.mg y=some (.ref f))(M:PA X [a] ta)(N:(y==("__debug__":Str))=false:=by decide)(he:starEach [a] X.env=[(false,eval a X.env)]:=by rfl):PE X (.Call (.Name "sorted" p) [a] [⟨some "key",.Name y p2,gN⟩] pos) (ED X.K ta):=by
 intro aa s σ H Q I h;refine wpAny_Call_Name_kw (i_ I E hm G ?_);refine callWith_kw ?_ (by rw[he];rfl) (by rw[he];rfl) rfl rfl;refine aJ (M pos aa s σ H _ I h) fun us d ⟨vs,H1,c,e,g⟩=>?_;obtain⟨l,as,pss,rfl,v,z,b,q⟩:=g;obtain⟨u,rfl,C⟩:=vals1 e;cases C;refine kws_cons (kQ c J L (kws_nil ?_) N);show wpAny (model X.prog X.w) X.A (call (.builtin "sorted") [.ref l] [(Str.ofString "key",.ref f)]) _ _ d;exact EC F hr hb c v z b fun D H' i s' O j o r hp hs=>⟨.ref D,H',O,rfl,q D H' i j o r hp hs⟩
end
end L2
end
section
namespace STb
open PySem PySem.SetTable
def Ris(xs:Array Nat):Prop:=∀(i j a b:Nat),xs[i]?=some a->xs[j]?=some b->i<j->a<b
def Ris.inj{xs:Array Nat}(h:Ris xs){i j a:Nat}(h1:xs[i]?=some a)(h2:xs[j]?=some a):i=j:=by
 rcases Nat.lt_trichotomy i j with q|q|q
 ·exact absurd (h i j a a h1 h2 q) (Nat.lt_irrefl _)
 ·exact q
 ·exact absurd (h j i a a h2 h1 q) (Nat.lt_irrefl _)
def t4{xs:Array Nat}{j:Nat}(hr:Ris xs):∀(fuel lo hi:Nat),hi-lo<=fuel->lo<=hi->hi<=xs.size->(∀i a,xs[i]?=some a->i<lo->a<j)->(∀i a,xs[i]?=some a->hi<=i->j<=a)->
  below.go xs j fuel lo hi<=xs.size/\(∀i a,xs[i]?=some a->i<below.go xs j fuel lo hi->a<j)/\(∀i a,xs[i]?=some a->below.go xs j fuel lo hi<=i->j<=a)
 |0,lo,hi,h0,h1,h2,h3,h4=>by
  have e:lo=hi:=ω
  subst e;exact⟨h2,h3,h4⟩
 |fuel+1,lo,hi,h0,h1,h2,h3,h4=>by
  have d:below.go xs j (fuel+1) lo hi=if lo<hi then(if xs.getD ((lo+hi) / 2) j<j then below.go xs j fuel ((lo+hi) / 2+1) hi else below.go xs j fuel lo ((lo+hi) / 2)) else lo:=rfl;rw[d]
  by_cases c:lo<hi
  ·rw[if_pos c]
   have hm:(lo+hi) / 2<xs.size:=ω
   have em:xs[(lo+hi) / 2]?=some xs[(lo+hi) / 2]:=getElem?_pos xs _ hm;have f:xs.getD ((lo+hi) / 2) j=xs[(lo+hi) / 2]:=by simp[Array.getD,hm]
   rw[f]
   by_cases hc:xs[(lo+hi) / 2]<j
   ·rw[if_pos hc]
    refine t4 hr fuel _ _ ω ω h2 (fun i a e b=>?_) h4;rcases Nat.lt_or_eq_of_le (Nat.lt_succ_iff.mp b) with q|q
    ·exact Nat.lt_trans (hr _ _ _ _ e em q) hc
    ·subst q;rw[em] at e;cases e;exact hc
   ·rw[if_neg hc]
    refine t4 hr fuel _ _ ω ω ω h3 (fun i a e b=>?_);rcases Nat.lt_or_eq_of_le b with q|q
    ·have:=hr _ _ _ _ em e q
     omega
    ·subst q;rw[em] at e;cases e;omega
  ·rw[if_neg c]
   have e:lo=hi:=ω
   subst e;exact⟨h2,h3,h4⟩
def t_{xs:Array Nat}(hr:Ris xs)(j:Nat):below xs j<=xs.size/\(∀i a,xs[i]?=some a->i<below xs j->a<j)/\(∀i a,xs[i]?=some a->below xs j<=i->j<=a):=
 t4 hr xs.size 0 xs.size ω ω (Ah _) (fun _ _ _ h=>absurd h (Nat.not_lt_zero _)) (fun i a e h=>by have:=(Array.getElem?_eq_some_iff.mp e).1;omega)
def below_at{xs:Array Nat}(hr:Ris xs){i j:Nat}(e:xs[i]?=some j):below xs j=i:=by
 obtain⟨h1,h2,a⟩:=t_ hr j;rcases Nat.lt_trichotomy (below xs j) i with q|q|q
 ·have hb:below xs j<xs.size:=Nat.lt_trans q (Array.getElem?_eq_some_iff.mp e).1
  have e2:=getElem?_pos xs (below xs j) hb;have b:=a _ _ e2 (Ah _);have c:=hr _ _ _ _ e2 e q;omega
 ·exact q
 ·exact absurd (h2 i j e q) (Nat.lt_irrefl _)
def ew{a:Type}(xs:Array a)(p:Nat)(x:a)(hp:p<=xs.size)(i:Nat):(insertAt xs p x)[i]?=if i<p then xs[i]? else if i=p then some x else xs[i-1]?:=by
 unfold insertAt;have hs:((xs.extract 0 p).push x).size=p+1:=by rw[Array.size_push,Array.size_extract];omega
 by_cases h1:i<p
 ·rw[if_pos h1,Array.getElem?_append_left ω,Array.getElem?_push_lt (by rw[Array.size_extract];omega)]
  simp[Array.getElem_extract,h1]
 ·rw[if_neg h1]
  by_cases h2:i=p
  ·subst h2
   rw[if_pos rfl,Array.getElem?_append_left ω];have e:(xs.extract 0 i).size=i:=by rw[Array.size_extract];omega
   have:=Array.getElem?_push_size (xs:=xs.extract 0 i) (x:=x);rw[e] at this;exact this
  ·rw[if_neg h2,Array.getElem?_append_right ω,hs,Array.getElem?_extract]
   by_cases b:i-(p+1)<xs.size-p
   ·rw[if_pos ω]
    congr 1
    omega
   ·rw[if_neg ω]
    exact(Array.getElem?_eq_none ω).symm
def ol{a:Type}(xs:Array a)(p:Nat)(x:a)(hp:p<=xs.size):(insertAt xs p x).size=xs.size+1:=by
 unfold insertAt;rw[Array.size_append,Array.size_push,Array.size_extract,Array.size_extract];omega
def EF{xs:Array Nat}(hr:Ris xs){j:Nat}(p:∀i:Nat,xs[i]?≠some j):Ris (insertAt xs (below xs j) j):=by
 obtain⟨h1,h2,o⟩:=t_ hr j;intro a b x y d c e;rw[ew _ _ _ h1] at d c
 by_cases f:a<below xs j
 ·rw[if_pos f] at d
  by_cases g:b<below xs j
  ·rw[if_pos g] at c;exact hr _ _ _ _ d c e
  ·rw[if_neg g] at c
   by_cases h:b=below xs j
   ·rw[if_pos h] at c;cases c;exact h2 _ _ d f
   ·rw[if_neg h] at c;exact hr _ _ _ _ d c ω
 ·rw[if_neg f] at d
  rw[if_neg ω] at c
  by_cases l:a=below xs j
  ·rw[if_pos l] at d;cases d
   rw[if_neg ω] at c;have:=o _ _ c ω;rcases Nat.lt_or_eq_of_le this with q|q
   ·exact q
   ·subst q;exact absurd c (p _)
  ·rw[if_neg l] at d
   rw[if_neg ω] at c;exact hr _ _ _ _ d c ω
def eH(mask:Nat)(p:Probe):Probe:=
 if p.more>0 then {p with j:=p.j+1,more:=p.more-1} else
 {p with j:=(leap mask p.i p.perturb).1,more:=runEnd mask (leap mask p.i p.perturb).1-(leap mask p.i p.perturb).1,i:=(leap mask p.i p.perturb).1,perturb:=(leap mask p.i p.perturb).2}
def first(mask:Nat)(h:Int):Probe:={j:=bits h%(mask+1),more:=runEnd mask (bits h%(mask+1))-bits h%(mask+1),i:=bits h%(mask+1),perturb:=bits h,dummy:=none}
def pr(mask:Nat)(h:Int):Nat->Probe
 |0=>first mask h
 |n+1=>eH mask (pr mask h n)
def pos(mask:Nat)(h:Int)(n:Nat):Nat:=(pr mask h n).j
def yr(mask:Nat)(h:Int):∀n,(pr mask h n).dummy=none
 |0=>rfl
 |n+1=>by
  show(eH mask (pr mask h n)).dummy=none;unfold eH;split<;>exact yr mask h n
def lp(mask:Nat)(h:Int):Nat->Nat×Nat
 |0=>(bits h%(mask+1),bits h)
 |r+1=>leap mask (lp mask h r).1 (lp mask h r).2
def EG(mask i:Nat):runEnd mask i-i<=9:=by unfold runEnd;split<;>omega
def oq(mask:Nat)(h:Int){n r:Nat}(e:pr mask h n={j:=(lp mask h r).1,more:=runEnd mask (lp mask h r).1-(lp mask h r).1,i:=(lp mask h r).1,perturb:=(lp mask h r).2,dummy:=none}):∀k,k<=runEnd mask (lp mask h r).1-(lp mask h r).1->pr mask h (n+k)={j:=(lp mask h r).1+k,more:=runEnd mask (lp mask h r).1-(lp mask h r).1-k,i:=(lp mask h r).1,perturb:=(lp mask h r).2,dummy:=none}
 |0,_=>e
 |k+1,hk=>by
  have a:=oq mask h e k ω;show eH mask (pr mask h (n+k))=_;rw[a];unfold eH;rw[if_pos (by show runEnd mask (lp mask h r).1-(lp mask h r).1-k>0;omega)]
  congr 1
def yt(mask:Nat)(h:Int):∀r,∃n,n<=10*r/\pr mask h n={j:=(lp mask h r).1,more:=runEnd mask (lp mask h r).1-(lp mask h r).1,i:=(lp mask h r).1,perturb:=(lp mask h r).2,dummy:=none}
 |0=>⟨0,Ah _,rfl⟩
 |r+1=>by
  obtain⟨n,a,e⟩:=yt mask h r;have b:=EG mask (lp mask h r).1;refine⟨n+(runEnd mask (lp mask h r).1-(lp mask h r).1)+1,ω,?_⟩;show eH mask (pr mask h (n+(runEnd mask (lp mask h r).1-(lp mask h r).1)))=_;rw[oq mask h e _ (Ah _)];unfold eH;rw[if_neg (by show ¬(runEnd mask (lp mask h r).1-(lp mask h r).1-(runEnd mask (lp mask h r).1-(lp mask h r).1)>0);omega)]
  rfl
def EH(h:Int):bits h<2 ^ 64:=by
 unfold bits;have h1:(0:Int)<=h%(2 ^ 64:Int):=Int.emod_nonneg _ ξ;have h2:h%(2 ^ 64:Int)<2 ^ 64:=Int.emod_lt_of_pos _ ξ;omega
def yu(mask:Nat)(h:Int):∀r,(lp mask h r).2=bits h / 32 ^ r
 |0=>by simp[lp]
 |r+1=>by
  show(lp mask h r).2 / 32=_;rw[yu mask h r,Nat.div_div_eq_div_mul,Nat.pow_succ]
def EI(mask:Nat)(h:Int){r:Nat}(hr:13<=r):(lp mask h r).2=0:=by
 rw[yu];have h1:=EH h;have h2:32 ^ 13<=32 ^ r:=Nat.pow_le_pow_right ξ hr;exact Nat.div_eq_of_lt (Az h1 (AF ξ h2))
def yw(mask:Nat)(h:Int):∀r,(lp mask h r).1<=mask
 |0=>Nat.lt_succ_iff.mp (Nat.mod_lt _ (Nat.succ_pos _))
 |r+1=>Nat.lt_succ_iff.mp (Nat.mod_lt _ (Nat.succ_pos _))
def f5(mask x:Nat):Nat:=(x*5+1)%(mask+1)
def eA(mask:Nat):Nat->Nat->Nat
 |0,x=>x
 |k+1,x=>f5 mask (eA mask k x)
def uk(mask:Nat)(h:Int):∀k,(lp mask h (13+k)).1=eA mask k (lp mask h 13).1
 |0=>rfl
 |k+1=>by
  show((lp mask h (13+k)).1*5+1+(lp mask h (13+k)).2 / 32)%(mask+1)=f5 mask (eA mask k (lp mask h 13).1);rw[EI mask h ω,uk mask h k]
  rfl
def ee(mask:Nat):Prop:=∀i s,i<=mask->s<=mask->∃k,k<=mask/\eA mask k i=s
def ki(mask:Nat):Nat->Nat->List Nat
 |0,_=>[]
 |n+1,x=>x::ki mask n (f5 mask x)
def yx(mask:Nat):∀(n x k:Nat),k<n->(ki mask n x)[k]?=some (eA mask k x)
 |0,_,_,h=>absurd h (Nat.not_lt_zero _)
 |n+1,x,0,_=>rfl
 |n+1,x,k+1,h=>by
  have a:=yx mask n (f5 mask x) k ω;show(ki mask n (f5 mask x))[k]?=_;rw[a]
  congr 1
  have b:∀k x,eA mask k (f5 mask x)=f5 mask (eA mask k x):=by
   intro k
   induction k with
   |zero=>intro x;rfl
   |succ k a=>intro x;show f5 mask (eA mask k (f5 mask x))=_;rw[a];rfl
  exact b k x
def uq(mask:Nat):∀n x,(ki mask n x).length=n
 |0,_=>rfl
 |n+1,x=>by show(ki mask n (f5 mask x)).length+1=_;rw[uq mask n]
def ot(mask:Nat):∀(a b x:Nat),eA mask (a+b) x=eA mask a (eA mask b x)
 |0,b,x=>by rw[Nat.zero_add];rfl
 |a+1,b,x=>by
  rw[Nat.add_right_comm];show f5 mask (eA mask (a+b) x)=_;rw[ot mask a b x]
  rfl
def km{mask:Nat}(h:((Bb (mask+1)).all fun s=>(ki mask (mask+1) 0).contains s)=true)(hp:eA mask (mask+1) 0=0):ee mask:=by
 have all:∀s,s<=mask->∃k,k<=mask/\eA mask k 0=s:=fun s hs=>by
  have h2:=List.all_eq_true.mp h s (List.mem_range.mpr ω);obtain⟨k,hk,e⟩:=List.mem_iff_getElem.mp (List.contains_iff_mem.mp h2);rw[uq] at hk;refine⟨k,ω,?_⟩;have e2:=yx mask (mask+1) 0 k hk;rw[Af (by rw[uq];exact hk),e] at e2;exact(Al e2).symm
 intro i s hi hs;obtain⟨a,f,c⟩:=all i hi;obtain⟨b,hb,d⟩:=all s hs;rcases Nat.lt_or_ge b a with q|q
 ·refine⟨mask+1-a+b,ω,?_⟩
  rw[<-c,<-ot,show mask+1-a+b+a=b+(mask+1) from ω,ot,hp,d]
 ·refine⟨b-a,ω,?_⟩
  rw[<-c,<-ot,show b-a+a=b from ω,d]
def uv:ee 7:=km δ δ
def iL:ee 31:=km δ δ
def lQ:ee 15:=km δ δ
def iM:ee 63:=km δ δ
def jC:ee 255:=km δ δ
def fI:ee 127:=km δ δ
def lR{mask:Nat}(hc:ee mask)(h:Int){x:Nat}(hx:x<=mask):∃n,n<10*turns mask/\pos mask h n=x:=by
 obtain⟨k,hk,e⟩:=hc (lp mask h 13).1 x (yw mask h 13) hx;obtain⟨n,a,e2⟩:=yt mask h (13+k);refine⟨n,by unfold turns;omega,?_⟩;show(pr mask h n).j=x;rw[e2];show(lp mask h (13+k)).1=x;rw[uk,e]
def ej(mask:Nat)(h:Int)(n:Nat):pos mask h n<=mask:=by
 have key:∀n,(pr mask h n).i<=mask/\(pr mask h n).j+(pr mask h n).more<=mask:=by
  intro n;have a:∀i,i<=mask->i+(runEnd mask i-i)<=mask:=fun i hi=>by unfold runEnd;split<;>omega
  induction n with
  |zero=>
   have q:bits h%(mask+1)<=mask:=Nat.lt_succ_iff.mp (Nat.mod_lt _ (Nat.succ_pos _));exact⟨q,a _ q⟩
  |succ n ih=>
   show(eH mask (pr mask h n)).i<=mask/\(eH mask (pr mask h n)).j+(eH mask (pr mask h n)).more<=mask;unfold eH;split
   ·exact⟨ih.1,by show(pr mask h n).j+1+((pr mask h n).more-1)<=mask;omega⟩
   ·have q:(leap mask (pr mask h n).i (pr mask h n).perturb).1<=mask:=Nat.lt_succ_iff.mp (Nat.mod_lt _ (Nat.succ_pos _))
    exact⟨q,a _ q⟩
 have:=(key n).2;unfold pos;omega
structure Tb(t:SetTable)(hs:Array Int):Prop where
 ris:Ris t.place
 dum:t.dummies=#[]
 size:t.place.size=hs.size
 le:∀(i j:Nat),t.place[i]?=some j->j<=t.mask
 cov:ee t.mask
 odd:t.mask%2=1
 room:hs.size<=t.mask
 path:∀(k j:Nat)(h:Int),hs[k]?=some h->t.place[k]?=some j->∃n,pos t.mask h n=j/\∀m,m<n->∃k':Nat,t.place[k']?=some (pos t.mask h m)
def Occ(t:SetTable)(j:Nat):Prop:=∃i:Nat,t.place[i]?=some j
def Occ.dec(t:SetTable)(j:Nat):Occ t j\/¬Occ t j:=Classical.em _
section
variable{t:SetTable}{hs:Array Int}
def kn(T:Tb t hs){i j:Nat}(e:t.place[i]?=some j):t.slot j=.live i:=by
 show(if(t.place[below t.place j]?==some j)=true then Slot.live (below t.place j) else _)=_;rw[below_at T.ris e,e,if_pos (by simp)]
def EJ(T:Tb t hs){j:Nat}(e:¬Occ t j):t.slot j=.empty:=by
 show(if(t.place[below t.place j]?==some j)=true then Slot.live (below t.place j) else if has t.dummies j=true then Slot.dummy else Slot.empty)=_;have h1:¬(t.place[below t.place j]?==some j)=true:=by
  intro q;exact e ⟨_,eq_of_beq q⟩
 have h2:has t.dummies j=false:=by
  unfold has;rw[T.dum]
  rfl
 rw[if_neg h1,h2]
 rfl
def EK(T:Tb t hs):∃x,x<=t.mask/\¬Occ t x:=by
 apply Classical.byContradiction;intro a;have all:∀x,x<=t.mask->Occ t x:=fun x hx=>Classical.byContradiction fun q=>a ⟨x,hx,q⟩;have sub:Bb (t.mask+1) ⊆ t.place.toList:=fun x hx=>by
  obtain⟨i,e⟩:=all x (Nat.lt_succ_iff.mp (List.mem_range.mp hx));rw[<-AT] at e;exact An e
 have:=(List.nodup_range (n:=t.mask+1)).length_le_of_subset sub;rw[List.length_range,AQ,T.size] at this;have:=T.room;omega
def least{P:Nat->Prop}(n:Nat)(h:P n):∃m,m<=n/\P m/\∀k,k<m->¬P k:=by
 induction n using Nat.strongRecOn with
 |ind n ih=>
  by_cases q:∃k,k<n/\P k
  ·obtain⟨k,hk,a⟩:=q
   obtain⟨m,h1,h2,b⟩:=ih k hk a;exact⟨m,ω,h2,b⟩
  ·exact⟨n,Ah _,h,fun k hk a=>q ⟨k,hk,a⟩⟩
def yy(T:Tb t hs)(h:Int):∃ne,ne<10*turns t.mask/\¬Occ t (pos t.mask h ne)/\∀m,m<ne->Occ t (pos t.mask h m):=by
 obtain⟨x,hx,fx⟩:=EK T;obtain⟨n,b,e⟩:=lR T.cov h hx;obtain⟨m,h1,h2,a⟩:=least (P:=fun m=>¬Occ t (pos t.mask h m)) n (by rw[e];exact fx);exact⟨m,ω,h2,fun k hk=>Classical.byContradiction fun q=>a k hk q⟩
def uy(T:Tb t hs){hashAt:Nat->Int}{h:Int}:∀(d fuel n:Nat),(∀m,n<=m->m<n+d->∃i:Nat,t.place[i]?=some (pos t.mask h m)/\hashAt i≠h)->probe.go t hashAt h (fuel+d) (pr t.mask h n)=probe.go t hashAt h fuel (pr t.mask h (n+d))
 |0,fuel,n,_=>rfl
 |d+1,fuel,n,hm=>by
  obtain⟨i,e1,e2⟩:=hm n (Ah _) ω;have es:t.slot (pr t.mask h n).j=.live i:=kn T e1;have a:=uy T d fuel (n+1) (fun m h1 h2=>hm m ω ω);rw[show fuel+(d+1)=(fuel+d)+1 from ω,show n+(d+1)=n+1+d from ω,<-a];show(match t.slot (pr t.mask h n).j with
   |.empty=>some (Met.empty (pr t.mask h n).j (pr t.mask h n).dummy)
   |.dummy=>probe.go t hashAt h (fuel+d) (t.advance {(pr t.mask h n) with dummy:=some (pr t.mask h n).j})
   |.live i=>if hashAt i==h then some (Met.candidate (pr t.mask h n).j i (t.advance (pr t.mask h n))) else probe.go t hashAt h (fuel+d) (t.advance (pr t.mask h n)))=_
  rw[es];dsimp only;rw[if_neg (by simpa using e2)]
  rfl
def probe_spec(T:Tb t hs){hashAt:Nat->Int}{h:Int}{ne n:Nat}(v:ne<10*turns t.mask)(he:¬Occ t (pos t.mask h ne))(hm:∀m,m<ne->Occ t (pos t.mask h m))(w:n<=ne):(t.probe hashAt h (pr t.mask h n)=some (.empty (pos t.mask h ne) none)/\∀m i,n<=m->m<ne->t.place[i]?=some (pos t.mask h m)->hashAt i≠h) \/
  ∃(N i:Nat),n<=N/\N<ne/\t.place[i]?=some (pos t.mask h N)/\hashAt i=h/\t.probe hashAt h (pr t.mask h n)=some (.candidate (pos t.mask h N) i (pr t.mask h (N+1)))/\∀m f,n<=m->m<N->t.place[f]?=some (pos t.mask h m)->hashAt f≠h:=by
 by_cases q:∃N,n<=N/\N<ne/\∃i:Nat,t.place[i]?=some (pos t.mask h N)/\hashAt i=h
 ·right
  obtain⟨p,r⟩:=q;obtain⟨N,h1,⟨h2,s,i,l,o⟩,u⟩:=least (P:=fun N=>n<=N/\N<ne/\∃i:Nat,t.place[i]?=some (pos t.mask h N)/\hashAt i=h) p r;have g:∀m f,n<=m->m<N->t.place[f]?=some (pos t.mask h m)->hashAt f≠h:=fun m f a b c d=>u m b ⟨a,ω,f,c,d⟩;refine⟨N,i,h2,s,l,o,?_,g⟩;obtain⟨fuel,hf⟩:∃fuel,10*turns t.mask=(fuel+1)+(N-n):=⟨10*turns t.mask-(N-n)-1,ω⟩;unfold SetTable.probe;rw[hf,uy T (N-n) (fuel+1) n (fun m a b=>?_),show n+(N-n)=N from ω]
  ·show(match t.slot (pr t.mask h N).j with
    |.empty=>some (Met.empty (pr t.mask h N).j (pr t.mask h N).dummy)
    |.dummy=>probe.go t hashAt h fuel (t.advance {(pr t.mask h N) with dummy:=some (pr t.mask h N).j})
    |.live i=>if hashAt i==h then some (Met.candidate (pr t.mask h N).j i (t.advance (pr t.mask h N))) else probe.go t hashAt h fuel (t.advance (pr t.mask h N)))=_
   rw[show t.slot (pr t.mask h N).j=.live i from kn T l];dsimp only;rw[if_pos (by simpa using o)]
   rfl
  ·obtain⟨f,e⟩:=hm m ω
   exact⟨f,e,g m f a ω e⟩
 ·left
  have g:∀m i,n<=m->m<ne->t.place[i]?=some (pos t.mask h m)->hashAt i≠h:=fun m i a b c d=>q ⟨m,a,b,i,c,d⟩;refine⟨?_,g⟩;obtain⟨fuel,hf⟩:∃fuel,10*turns t.mask=(fuel+1)+(ne-n):=⟨10*turns t.mask-(ne-n)-1,ω⟩;unfold SetTable.probe;rw[hf,uy T (ne-n) (fuel+1) n (fun m a b=>?_),show n+(ne-n)=ne from ω]
  ·show(match t.slot (pr t.mask h ne).j with
    |.empty=>some (Met.empty (pr t.mask h ne).j (pr t.mask h ne).dummy)
    |.dummy=>probe.go t hashAt h fuel (t.advance {(pr t.mask h ne) with dummy:=some (pr t.mask h ne).j})
    |.live i=>if hashAt i==h then some (Met.candidate (pr t.mask h ne).j i (t.advance (pr t.mask h ne))) else probe.go t hashAt h fuel (t.advance (pr t.mask h ne)))=_
   rw[show t.slot (pr t.mask h ne).j=.empty from EJ T he];dsimp only;rw[yr]
   rfl
  ·obtain⟨f,e⟩:=hm m ω
   exact⟨f,e,g m f a ω e⟩
def EL(T:Tb t hs){h:Int}{ne k j:Nat}(he:¬Occ t (pos t.mask h ne))(hk:hs[k]?=some h)(a:t.place[k]?=some j):∃N,N<ne/\pos t.mask h N=j:=by
 obtain⟨n,e,hm⟩:=T.path k j h hk a;refine⟨n,?_,e⟩;rcases Nat.lt_trichotomy n ne with q|q|q
 ·exact q
 ·subst q;exact absurd ⟨k,by rw[e];exact a⟩ he
 ·exact absurd (hm ne q) he
def EM(T:Tb t hs){h:Int}{ne:Nat}(he:¬Occ t (pos t.mask h ne))(hm:∀m,m<ne->Occ t (pos t.mask h m))(hr:hs.size+1<=t.mask):(t.put (pos t.mask h ne)).2<=hs.size/\(t.put (pos t.mask h ne)).1.mask=t.mask/\Tb (t.put (pos t.mask h ne)).1 (insertAt hs (t.put (pos t.mask h ne)).2 h):=by
 have s:∀i:Nat,t.place[i]?≠some (pos t.mask h ne):=fun i e=>he ⟨i,e⟩;obtain⟨f,u,v⟩:=t_ T.ris (pos t.mask h ne);have hb:below t.place (pos t.mask h ne)<=hs.size:=by rw[<-T.size];exact f
 have g:(t.put (pos t.mask h ne)).1.place=insertAt t.place (below t.place (pos t.mask h ne)) (pos t.mask h ne):=rfl;have mk:(t.put (pos t.mask h ne)).1.mask=t.mask:=rfl;have d:∀j,Occ t j->∃r:Nat,(t.put (pos t.mask h ne)).1.place[r]?=some j:=fun j ⟨i,e⟩=>by
  by_cases q:i<below t.place (pos t.mask h ne)
  ·exact⟨i,by rw[g,ew _ _ _ f,if_pos q];exact e⟩
  ·exact⟨i+1,by rw[g,ew _ _ _ f,if_neg ω,if_neg ω,Nat.add_sub_cancel];exact e⟩
 refine⟨hb,mk,⟨?_,?_,?_,fun i j e=>?_,T.cov,T.odd,?_,fun k j h' e1 e2=>?_⟩⟩
 ·rw[g];exact EF T.ris s
 ·show(if has t.dummies (pos t.mask h ne)=true then _ else t.dummies)=#[]
  rw[T.dum]
  rfl
 ·rw[g,ol _ _ _ f]
  show _=(insertAt hs (below t.place (pos t.mask h ne)) h).size;rw[ol _ _ _ hb,T.size]
 ·rw[g,ew _ _ _ f] at e
  rw[mk]
  by_cases o:i<below t.place (pos t.mask h ne)
  ·rw[if_pos o] at e;exact T.le _ _ e
  ·rw[if_neg o] at e
   by_cases p:i=below t.place (pos t.mask h ne)
   ·rw[if_pos p] at e;cases e;exact ej _ _ _
   ·rw[if_neg p] at e;exact T.le _ _ e
 ·show(insertAt hs (below t.place (pos t.mask h ne)) h).size<=t.mask
  rw[ol _ _ _ hb];exact hr
 ·have c:(insertAt hs (below t.place (pos t.mask h ne)) h)[k]?=some h':=e1
  rw[ew _ _ _ hb] at c;rw[g,ew _ _ _ f] at e2;rw[mk]
  by_cases o:k<below t.place (pos t.mask h ne)
  ·rw[if_pos o] at c e2
   obtain⟨n,a,b⟩:=T.path k j h' c e2;exact⟨n,a,fun m l=>d _ (b m l)⟩
  ·rw[if_neg o] at c e2
   by_cases p:k=below t.place (pos t.mask h ne)
   ·rw[if_pos p] at c e2
    cases c;cases e2;exact⟨ne,rfl,fun m l=>d _ (hm m l)⟩
   ·rw[if_neg p] at c e2
    obtain⟨n,a,b⟩:=T.path (k-1) j h' c e2;exact⟨n,a,fun m l=>d _ (b m l)⟩
end
def uA(finger moves:Nat)(led:Bool):Tb (SetTable.fresh finger moves led) #[]:=
 ⟨fun i j a b h=>by simp[SetTable.fresh] at h,rfl,rfl,fun i j h=>by simp[SetTable.fresh] at h,uv,show 7%2=1 from rfl,show 0<=7 from AK _,fun k j h e=>by simp at e⟩
def Own(a:Array (Option Nat))(j:Nat):Prop:=∃q,a[j]?=some (some q)
def db(mask:Nat)(h:Int):Nat->Nat
 |0=>0
 |r+1=>db mask h r+(runEnd mask (lp mask h r).1-(lp mask h r).1)+1
def EN(mask:Nat)(h:Int){r R:Nat}(hr:r<=R):db mask h r<=db mask h R:=by
 induction hr with
 |refl=>exact Ah _
 |step _ ih=>exact AF ih (by show _<=db mask h _+_+1;omega)
def uT(mask:Nat)(h:Int):∀r,pr mask h (db mask h r)={j:=(lp mask h r).1,more:=runEnd mask (lp mask h r).1-(lp mask h r).1,i:=(lp mask h r).1,perturb:=(lp mask h r).2,dummy:=none}
 |0=>rfl
 |r+1=>by
  show eH mask (pr mask h (db mask h r+(runEnd mask (lp mask h r).1-(lp mask h r).1)))=_;rw[oq mask h (uT mask h r) _ (Ah _)];unfold eH;rw[if_neg (by show ¬(runEnd mask (lp mask h r).1-(lp mask h r).1-(runEnd mask (lp mask h r).1-(lp mask h r).1)>0);omega)]
  rfl
def u0{a:Array (Option Nat)}{mask j:Nat}(hz:a.size=mask+1)(d:j<=mask):(a.getD j (some 0)).isNone=true↔¬Own a j:=by
 have b:j<a.size:=ω
 have e:a.getD j (some 0)=a[j]:=by simp[Array.getD,b]
 have e2:a[j]?=some a[j]:=getElem?_pos a j b;rw[e];constructor
 ·intro h ⟨q,hq⟩
  rw[e2] at hq;rw[Al hq] at h;cases h
 ·intro h
  cases c:a[j] with
  |none=>rfl
  |some q=>exact absurd ⟨q,by rw[e2,c]⟩ h
def EO{mask:Nat}{a:Array (Option Nat)}(hz:a.size=mask+1)(h:Int){ne R:Nat}(he:¬Own a (pos mask h ne))(hm:∀m,m<ne->Own a (pos mask h m))(hR:ne<=db mask h R):∀(fuel r:Nat),db mask h r<=ne->R<r+fuel->layClean.free mask a fuel (lp mask h r).1 (lp mask h r).2=some (pos mask h ne):=by
 intro fuel
 induction fuel with
 |zero=>
  intro r h1 h2;have q:=EN mask h (r:=R+1) (R:=r) ω;have:db mask h (R+1)=db mask h R+(runEnd mask (lp mask h R).1-(lp mask h R).1)+1:=rfl;omega
 |succ fuel ih=>
  intro r g hr;have walk:=oq mask h (uT mask h r);have c:∀k,k<=runEnd mask (lp mask h r).1-(lp mask h r).1->pos mask h (db mask h r+k)=(lp mask h r).1+k:=fun k hk=>by
   unfold pos;rw[walk k hk]
  have e:(lp mask h r).1<=runEnd mask (lp mask h r).1:=by unfold runEnd;split<;>omega
  have b:∀k,k<=runEnd mask (lp mask h r).1-(lp mask h r).1->(lp mask h r).1+k<=mask:=fun k hk=>by rw[<-c k hk];exact ej _ _ _
  show(match (Bb (runEnd mask (lp mask h r).1+1-(lp mask h r).1)).find? (fun k=>(a.getD ((lp mask h r).1+k) (some 0)).isNone) with
   |some k=>some ((lp mask h r).1+k)
   |none=>layClean.free mask a fuel (leap mask (lp mask h r).1 (lp mask h r).2).1 (leap mask (lp mask h r).1 (lp mask h r).2).2)=_
  by_cases f:ne<=db mask h r+(runEnd mask (lp mask h r).1-(lp mask h r).1)
  ·have d:(Bb (runEnd mask (lp mask h r).1+1-(lp mask h r).1)).find? (fun k=>(a.getD ((lp mask h r).1+k) (some 0)).isNone)=some (ne-db mask h r):=by
    rw[List.find?_range_eq_some];refine⟨?_,List.mem_range.mpr ω,fun k hk=>?_⟩
    ·show(a.getD ((lp mask h r).1+(ne-db mask h r)) (some 0)).isNone=true
     rw[u0 hz (b _ ω),<-c _ ω,show db mask h r+(ne-db mask h r)=ne from ω];exact he
    ·have q:¬(a.getD ((lp mask h r).1+k) (some 0)).isNone=true:=by
      rw[u0 hz (b _ ω),<-c k ω];exact fun z=>z (hm _ ω)
     rw[Bool.not_eq_true] at q;rw[q]
     rfl
   rw[d];dsimp only;rw[<-c _ ω,show db mask h r+(ne-db mask h r)=ne from ω]
  ·have d:(Bb (runEnd mask (lp mask h r).1+1-(lp mask h r).1)).find? (fun k=>(a.getD ((lp mask h r).1+k) (some 0)).isNone)=none:=by
    rw[List.find?_eq_none];intro k hk;have hk':=List.mem_range.mp hk;rw[u0 hz (b _ ω),<-c k ω];exact fun z=>z (hm _ ω)
   rw[d];dsimp only;refine ih (r+1) ?_ ω;show db mask h r+(runEnd mask (lp mask h r).1-(lp mask h r).1)+1<=ne;omega
structure Lay(mask:Nat)(am:List Int)(ae:Array (Option Nat))(k:Nat):Prop where
 size:ae.size=mask+1
 all:∀q:Nat,q<k->∃j:Nat,ae[j]?=some (some q)
 back:∀j q:Nat,ae[j]?=some (some q)->q<k
 one:∀(i j q:Nat),ae[i]?=some (some q)->ae[j]?=some (some q)->i=j
 path:∀(j q:Nat)(h:Int),ae[j]?=some (some q)->am[q]?=some h->∃n,pos mask h n=j/\∀m,m<n->Own ae (pos mask h m)
def Lay.room{mask:Nat}{i:List Int}{c:Array (Option Nat)}{k:Nat}(L:Lay mask i c k)(hk:k<=mask):∃x,x<=mask/\¬Own c x:=by
 apply Classical.byContradiction;intro f;have all:∀x,x<=mask->∃q,q<k/\c[x]?=some (some q):=fun x hx=>by
  have:Own c x:=Classical.byContradiction fun q=>f ⟨x,hx,q⟩;obtain⟨q,e⟩:=this;exact⟨q,L.back x q e,e⟩
 have sub:((Bb (mask+1)).map fun x=>(c.getD x none).getD 0) ⊆ Bb k:=fun y hy=>by
  obtain⟨x,hx,e⟩:=List.mem_map.mp hy;obtain⟨q,hq,e2⟩:=all x (Nat.lt_succ_iff.mp (List.mem_range.mp hx));rw[Array.getD_eq_getD_getElem?,e2] at e;subst e;exact List.mem_range.mpr hq
 have h:((Bb (mask+1)).map fun x=>(c.getD x none).getD 0).Nodup:=by
  refine List.nodup_iff_pairwise_ne.mpr (List.pairwise_map.mpr ?_);refine List.Pairwise.imp_of_mem ?_ (List.nodup_iff_pairwise_ne.mp (List.nodup_range (n:=mask+1)));intro a b g hb d e;obtain⟨q,_,e1⟩:=all a (Nat.lt_succ_iff.mp (List.mem_range.mp g));obtain⟨p,_,e2⟩:=all b (Nat.lt_succ_iff.mp (List.mem_range.mp hb));simp only[Array.getD_eq_getD_getElem?,e1,e2,Option.getD_some] at e;subst e;exact d (L.one a b q e1 e2)
 have:=h.length_le_of_subset sub;rw[Ab,List.length_range,List.length_range] at this;omega
def EQ{a:Array (Option Nat)}{mask j k:Nat}(hz:a.size=mask+1)(b:j<=mask)(i:Nat):(a.setIfInBounds j (some k))[i]?=if i=j then some (some k) else a[i]?:=by
 by_cases q:i=j
 ·subst q
  rw[if_pos rfl,Array.getElem?_setIfInBounds_self_of_lt ω]
 ·rw[if_neg q,Array.getElem?_setIfInBounds_ne (Ne.symm q)]
def Lay.step{mask:Nat}{g:List Int}{f:Array (Option Nat)}{k:Nat}{h:Int}(hc:ee mask)(L:Lay mask g f k)(hk:k<=mask)(u:g[k]?=some h):∃j,layClean.free mask f (turns mask) (bits h%(mask+1)) (bits h)=some j/\Lay mask g (f.setIfInBounds j (some k)) (k+1):=by
 obtain⟨x,hx,fx⟩:=L.room hk;obtain⟨d,hd,e⟩:=hc (lp mask h 13).1 x (yw mask h 13) hx;have r:pos mask h (db mask h (13+d))=x:=by
  unfold pos;rw[uT];show(lp mask h (13+d)).1=x;rw[uk,e]
 obtain⟨ne,h1,h2,p⟩:=least (P:=fun m=>¬Own f (pos mask h m)) (db mask h (13+d)) (by rw[r];exact fx);have hm:∀m,m<ne->Own f (pos mask h m):=fun m q=>Classical.byContradiction fun z=>p m q z;refine⟨pos mask h ne,EO L.size h h2 hm h1 (turns mask) 0 (AK _) (by unfold turns;omega),?_⟩;have s:pos mask h ne<=mask:=ej _ _ _;have c:=EQ (k:=k) L.size s;have own:∀i,Own f i->Own (f.setIfInBounds (pos mask h ne) (some k)) i:=fun i ⟨q,e⟩=>by
  by_cases z:i=pos mask h ne
  ·exact⟨k,by rw[c,if_pos z]⟩
  ·exact⟨q,by rw[c,if_neg z];exact e⟩
 refine⟨by rw[Array.size_setIfInBounds];exact L.size,fun q hq=>?_,fun j q e=>?_,fun i j q e1 e2=>?_,fun j q h' e1 e2=>?_⟩
 ·by_cases z:q=k
  ·exact⟨pos mask h ne,by rw[c,if_pos rfl,z]⟩
  ·obtain⟨j,l⟩:=L.all q ω
   refine⟨j,?_⟩;rw[c,if_neg fun w=>h2 ⟨q,by rw[<-w];exact l⟩];exact l
 ·rw[c] at e
  by_cases z:j=pos mask h ne
  ·rw[if_pos z] at e;cases e;omega
  ·rw[if_neg z] at e;have:=L.back j q e;omega
 ·rw[c] at e1 e2
  by_cases o:i=pos mask h ne
  ·rw[if_pos o] at e1;cases e1
   by_cases z2:j=pos mask h ne
   ·omega
   ·rw[if_neg z2] at e2;have:=L.back j k e2;omega
  ·rw[if_neg o] at e1
   by_cases z2:j=pos mask h ne
   ·rw[if_pos z2] at e2;cases e2;have:=L.back i k e1;omega
   ·rw[if_neg z2] at e2;exact L.one i j q e1 e2
 ·rw[c] at e1
  by_cases z:j=pos mask h ne
  ·rw[if_pos z] at e1;cases e1
   rw[u] at e2;cases e2;exact⟨ne,z.symm,fun m q=>own _ (hm m q)⟩
  ·rw[if_neg z] at e1
   obtain⟨n,a,b⟩:=L.path j q h' e1 e2;exact⟨n,a,fun m q=>own _ (b m q)⟩
def Lay.nil(mask:Nat)(b:List Int):Lay mask b (Array.replicate (mask+1) none) 0:=by
 have a:∀(j q:Nat),(Array.replicate (mask+1) (none:Option Nat))[j]?=some (some q)->False:=fun j q e=>by
  rw[Array.getElem?_replicate] at e;split at e<;>cases e
 exact⟨by simp,fun q h=>absurd h (Nat.not_lt_zero _),fun j q e=>(a j q e).elim,fun i j q e=>(a i q e).elim,fun j q h e=>(a j q e).elim⟩
def ER{mask:Nat}(hc:ee mask)(d:Array Int)(hk:d.size<=mask+1):∃c,layClean mask d=some c/\Lay mask d.toList c d.size:=by
 have go:∀(rest:List Int)(c:Array (Option Nat))(k:Nat),Lay mask d.toList c k->d.toList.drop k=rest->
   ∃g,(rest.foldl (fun acc h=>do
    let (c,k) <-acc
    let j <-layClean.free mask c (turns mask) (bits h%(mask+1)) (bits h)
    pure (c.setIfInBounds j (some k),k+1)) (some (c,k)))=some (g,k+rest.length)/\Lay mask d.toList g (k+rest.length):=by
  intro rest
  induction rest with
  |nil=>intro c k L _;exact⟨c,rfl,L⟩
  |cons h rest ih=>
   intro c k L e;have f:k<d.toList.length:=by
    rcases Nat.lt_or_ge k d.toList.length with q|q
    ·exact q
    ·rw[List.drop_eq_nil_of_le q] at e;cases e
   have l:d.toList[k]?=some h:=by
    rw[List.drop_eq_getElem_cons f] at e;injection e with e1 _
    rw[Af f,e1]
   have p:d.toList.drop (k+1)=rest:=by
    rw[List.drop_eq_getElem_cons f] at e;injection e
   rw[AQ] at f;obtain⟨j,i,r⟩:=L.step hc ω l;obtain⟨o',a,b⟩:=ih (c.setIfInBounds j (some k)) (k+1) r p;refine⟨o',?_,?_⟩
   ·rw[List.foldl_cons]
    show List.foldl _ (layClean.free mask c (turns mask) (bits h%(mask+1)) (bits h) >>= fun j=>pure (c.setIfInBounds j (some k),k+1)) rest=_;rw[i];show List.foldl _ (some (c.setIfInBounds j (some k),k+1)) rest=_;rw[a,Aw,show k+1+rest.length=k+(rest.length+1) from ω]
   ·rw[Aw,show k+(rest.length+1)=k+1+rest.length from ω]
    exact b
 obtain⟨o,a,b⟩:=go d.toList _ 0 (Lay.nil mask _) rfl;rw[Nat.zero_add,AQ] at a b;refine⟨o,?_,b⟩;unfold layClean;rw[<-Array.foldl_toList,a]
 rfl
def cq(a:Array (Option Nat))(n:Nat):List (Nat×Nat):=(Bb n).filterMap fun j=>(a.getD j none).map (j,·)
def iO{a:Array (Option Nat)}{n:Nat}{x:Nat×Nat}:x∈cq a n↔x.1<n/\a[x.1]?=some (some x.2):=by
 unfold cq;rw[List.mem_filterMap];constructor
 ·rintro⟨j,b,e⟩
  rw[Option.map_eq_some_iff] at e;obtain⟨q,e1,rfl⟩:=e;refine⟨List.mem_range.mp b,?_⟩;rw[Array.getD_eq_getD_getElem?] at e1;cases c:a[j]? with
  |none=>rw[c] at e1;cases e1
  |some v=>rw[c] at e1;simp only[Option.getD_some] at e1;rw[e1]
 ·rintro⟨h1,h2⟩
  refine⟨x.1,List.mem_range.mpr h1,?_⟩;rw[Array.getD_eq_getD_getElem?,h2]
  rfl
def yz(d:Array (Option Nat))(n:Nat):(cq d n).Pairwise fun x y=>x.1<y.1:=by
 unfold cq;refine List.Pairwise.filterMap (S:=fun x y:Nat×Nat=>x.1<y.1) _ ?_ (List.pairwise_lt_range (n:=n));intro a e h b hb f c;rw[Option.map_eq_some_iff] at hb c;obtain⟨_,_,rfl⟩:=hb;obtain⟨_,_,rfl⟩:=c;exact h
def ES{mask:Nat}{s:List Int}{c:Array (Option Nat)}{k:Nat}(L:Lay mask s c k):(cq c (mask+1)).length=k/\((cq c (mask+1)).map (·.2)).Nodup:=by
 have f:((cq c (mask+1)).map (·.2)).Nodup:=by
  refine List.nodup_iff_pairwise_ne.mpr (List.pairwise_map.mpr ?_);refine List.Pairwise.imp_of_mem ?_ (yz c (mask+1));intro a b g hb h e;have h1:=(iO.mp g).2;have h2:=(iO.mp hb).2;rw[<-e] at h2;have:=L.one _ _ _ h1 h2;omega
 refine⟨?_,f⟩;have i:(cq c (mask+1)).map (·.2) ⊆ Bb k:=fun q hq=>by
  obtain⟨x,hx,rfl⟩:=List.mem_map.mp hq;exact List.mem_range.mpr (L.back _ _ (iO.mp hx).2)
 have l:Bb k ⊆ (cq c (mask+1)).map (·.2):=fun q hq=>by
  obtain⟨j,d⟩:=L.all q (List.mem_range.mp hq);have o:j<mask+1:=by rw[<-L.size];exact(Array.getElem?_eq_some_iff.mp d).1
  exact List.mem_map.mpr ⟨(j,q),iO.mpr ⟨o,d⟩,rfl⟩
 have p:=f.length_le_of_subset i;have r:=(List.nodup_range (n:=k)).length_le_of_subset l;rw[Ab,List.length_range] at p;rw[List.length_range,Ab] at r;omega
def ET{mask:Nat}(hc:ee mask)(I:mask%2=1)(finger moves:Nat)(led plain:Bool)(d:Array Int)(hk:d.size<=mask):∃t f,laid mask finger moves led plain d=some (t,f)/\t.mask=mask/\t.led=led/\t.plain=plain/\f.size=d.size/\f.toList.Nodup/\(∀q∈f.toList,q<d.size)/\
   Tb t (f.map fun q=>(d[q]?).getD 0):=by
 obtain⟨c,e,L⟩:=ER hc d ω;obtain⟨v,z⟩:=ES L;refine⟨_,_,by unfold laid;rw[e];exact rfl,rfl,rfl,rfl,?_,?_,?_,?_⟩
 ·show((cq c (mask+1)).map (·.2)).toArray.size=_
  rw[Ai,Ab,v]
 ·exact z
 ·intro q hq
  obtain⟨x,hx,rfl⟩:=List.mem_map.mp (show q∈(cq c (mask+1)).map (·.2) from hq);exact L.back _ _ (iO.mp hx).2
 ·have g:∀i:Nat,(((cq c (mask+1)).map (·.1)).toArray)[i]?=((cq c (mask+1))[i]?).map (·.1):=fun i=>by
   rw[List.getElem?_toArray,Ak]
  have D:∀i:Nat,(((cq c (mask+1)).map (·.2)).toArray)[i]?=((cq c (mask+1))[i]?).map (·.2):=fun i=>by
   rw[List.getElem?_toArray,Ak]
  have r:∀j,Own c j->∃i:Nat,(((cq c (mask+1)).map (·.1)).toArray)[i]?=some j:=fun j ⟨q,l⟩=>by
   have p:j<mask+1:=by rw[<-L.size];exact(Array.getElem?_eq_some_iff.mp l).1
   obtain⟨i,hi,A⟩:=List.mem_iff_getElem.mp (iO.mpr ⟨p,l⟩:(j,q)∈cq c (mask+1));exact⟨i,by rw[g,Af hi,A];rfl⟩
  refine⟨fun i j a b w hb o=>?_,rfl,?_,fun i j l=>?_,hc,I,?_,fun k j h e1 e2=>?_⟩
  ·have E:((cq c (mask+1))[i]?).map (·.1)=some a:=by rw[<-g];exact w
   have s:((cq c (mask+1))[j]?).map (·.1)=some b:=by rw[<-g];exact hb
   obtain⟨x,ex,rfl⟩:=Option.map_eq_some_iff.mp E;obtain⟨y,C,rfl⟩:=Option.map_eq_some_iff.mp s;obtain⟨hi,rfl⟩:=List.getElem?_eq_some_iff.mp ex;obtain⟨p,rfl⟩:=List.getElem?_eq_some_iff.mp C;exact List.pairwise_iff_getElem.mp (yz c (mask+1)) i j hi p o
  ·show((cq c (mask+1)).map (·.1)).toArray.size=(Array.map _ ((cq c (mask+1)).map (·.2)).toArray).size
   rw[Array.size_map,Ai,Ai,Ab,Ab]
  ·have F:((cq c (mask+1))[i]?).map (·.1)=some j:=by rw[<-g];exact l
   obtain⟨x,ex,rfl⟩:=Option.map_eq_some_iff.mp F;exact Nat.lt_succ_iff.mp (iO.mp (An ex)).1
  ·show(Array.map _ ((cq c (mask+1)).map (·.2)).toArray).size<=mask
   rw[Array.size_map,Ai,Ab,v];exact hk
  ·have G:((cq c (mask+1))[k]?).map (·.1)=some j:=by rw[<-g];exact e2
   obtain⟨x,ex,rfl⟩:=Option.map_eq_some_iff.mp G;have u:(Array.map (fun q=>(d[q]?).getD 0) ((cq c (mask+1)).map (·.2)).toArray)[k]?=some h:=e1;rw[Array.getElem?_map,D,ex] at u;have hx:=(iO.mp (An ex)).2;have hq:=L.back _ _ hx;have H:d.toList[x.2]?=some h:=by
    rw[AT];have:d[x.2]?=some d[x.2]:=getElem?_pos d x.2 hq;simp only[Option.map_some,this,Option.getD_some] at u;rw[this,Al u]
   obtain⟨n,a,b⟩:=L.path x.1 x.2 h hx H;exact⟨n,a,fun m hm=>r _ (b m hm)⟩
section
variable{prog:Program}{w:World}{K:Type}[DecidableEq K]{knd:KeyKind prog w K}{A:Around}{E:Ω}{s:Shared}
def fits_of{t:SetTable}{es:Array (Int×Value)}(T:Tb t (es.map (·.1))):t.fits es.size=true:=by
 have h1:=T.size;have h2:=T.room;rw[Array.size_map] at h1 h2;unfold SetTable.fits SetTable.fill;rw[T.dum,h1];simp;exact h2
def EU(n:Nat){v:Value}(h:carriedByValue v=true):ofAClassStatement n v=pure false:=by
 cases v with
 |ref a=>simp[carriedByValue] at h
 |_=>cases n<;>rfl
def yA{ks:List K}{b:Addr}{Q:Bool->Shared->Prop}(hk:AJ knd s.heap ks b)(h:Q false s):wpAny (model prog w) A (ofAClassStatement 8 (.ref b)) Q E s:=by
 have hT:=hk.typeIs;obtain⟨o,d,n,e,_,hd,hi⟩:=hk;unfold ofAClassStatement;refine Aa (wpAny_typeOf hT ?_);show wpAny _ _ ((if("tuple" == "tuple")=true then pure true else isSubtype (.type "tuple") (.type "tuple")) >>= _) _ _ s;rw[if_pos ξ];refine Aa (Ac ?_);simp only[Bf,Aj,if_false];refine Aa (wpAny_seqItems e hd ?_);refine Aa ?_;show wpAny _ _ (forIn d _ _) _ _ s;rw[<-Array.forIn_toList];refine wpAny_forIn_list _ (fun rest r s'=>r.1=none/\s'=s/\∀v∈rest,carriedByValue v=true) _ ?_ ?_ _ _ ⟨rfl,rfl,hi.byValue⟩
 ·rintro v rest r s' ⟨hr,rfl,a⟩
  rw[EU _ (a v AB)];refine Aa (Ac ?_);simp only[Aj,if_false];exact Ac ⟨rfl,rfl,fun u c=>a u (Ay _ c)⟩
 ·rintro⟨f,g⟩ s' ⟨hr,rfl,_⟩
  simp only at hr;subst hr;exact Ac h
def EV{ks:List K}{b:Addr}{ys:List Value}{Q:Bool->Shared->Prop}(hk:AJ knd s.heap ks b)(hy:∀y∈ys,∃d c,y=.ref c/\AJ knd s.heap d c)(h:Q false s):wpAny (model prog w) A (searchCouldBeSeen (.ref b) ys) Q E s:=by
 unfold searchCouldBeSeen;refine Aa ?_;refine wpAny_forIn_list _ (fun rest r s'=>r.1=none/\s'=s/\∀y∈rest,∃d c,y=.ref c/\AJ knd s.heap d c) _ ?_ ?_ _ _ ⟨rfl,rfl,hy⟩
 ·rintro v rest r s' ⟨hr,rfl,a⟩
  obtain⟨d,c,rfl,hc⟩:=a v AB;have nx:∀u∈rest,∃d c,u=.ref c/\AJ knd s'.heap d c:=fun u e=>a u (Ay _ e);dsimp only;split
  ·exact Ac ⟨rfl,rfl,nx⟩
  ·refine Aa (wpAny_eqIsQuiet_tuple hk ?_)
   simp only[Bf,Aj,if_false];refine Aa (wpAny_eqIsQuiet_tuple hc ?_);simp only[Bf,Aj,if_false];refine Aa (yA hk ?_);simp only[Aj,if_false];refine Aa (yA hc ?_);simp only[Aj,if_false];exact Ac ⟨rfl,rfl,nx⟩
 ·rintro⟨f,g⟩ s' ⟨hr,rfl,_⟩
  simp only at hr;subst hr;exact Ac h
structure TS(knd:KeyKind prog w K)(h:Heap)(S:Addr)(o:Obj)(es:Array (Int×Value))(ep:Nat)(t:SetTable)(ks:List (List K))(B:List Addr):Prop where
 at_:h.get? S=some o
 ex:o.ExactSet
 dt:o.data=.set es ep t
 tb:Tb t (es.map (·.1))
 sz:es.size=ks.length
 nd:ks.Nodup
 el:∀e∈es.toList,∃k b,k∈ks/\e=(Aq knd k,Value.ref b)/\AJ knd h k b
 ke:∀k∈ks,∃b,(Aq knd k,Value.ref b)∈es.toList/\AJ knd h k b
 msk:(t.mask=7/\es.size<=4)\/(t.mask=31/\es.size<=18)\/(t.mask=127/\es.size<=76)\/(t.mask=15/\es.size<=8)\/(t.mask=63/\es.size<=37)\/(t.mask=255/\es.size<=152)
 ad:∀e∈es.toList,∃b∈B,e.2=Value.ref b
 wk:w.params.followText "set-order"=true\/(t.led=true/\t.plain=true)
def yB{B:List Addr}{S:Addr}{o:Obj}{es:Array (Int×Value)}{ep:Nat}{t:SetTable}{ks:List (List K)}(X:TS knd s.heap S o es ep t ks B)(hu:A.units<cLine){k:List K}{b:Addr}(hk:AJ knd s.heap k b){ne:Nat}(G:ne<10*turns t.mask)(he:¬Occ t (pos t.mask (Aq knd k) ne))(hm:∀m,m<ne->Occ t (pos t.mask (Aq knd k) m)){add:Bool}{Q:SetFound->Shared->Prop}(h1:k∈ks->∀r:Option Nat,(add=false->r.isSome=true)->Q (.there r) s)(h2:k∉ks->Q (.free (pos t.mask (Aq knd k) ne) false) s):∀(fuel n:Nat)(g:Option Probe),ne<n+fuel->n<=ne->g.getD (t.probeStart (Aq knd k))=pr t.mask (Aq knd k) n->
   (∀(m i:Nat)(c:Addr),m<n->t.place[i]?=some (pos t.mask (Aq knd k) m)->es[i]?=some (Aq knd k,Value.ref c)->¬AJ knd s.heap k c)->
   wpAny (model prog w) A (setSearchFrom S (.ref b) (Aq knd k) add fuel g) Q E s:=by
 have T:=X.tb;have x:=fits_of T;have hA:∀i:Nat,(es.map (·.1))[i]?=(es[i]?).map (·.1):=fun i=>Array.getElem?_map ..;intro fuel
 induction fuel with
 |zero=>intro n g M H _ _;omega
 |succ fuel ih=>
  intro n g M H O I;unfold setSearchFrom;refine Aa (Bd X.at_ X.dt x ?_);dsimp only;have gw:t.gaveWay=false:=by
   unfold SetTable.gaveWay;rw[T.odd]
   rfl
  rw[gw];simp only[Aj,if_false];rw[O];rcases probe_spec T (hashAt:=fun i=>((es[i]?).map (·.1)).getD 0) G he hm H with ⟨fL,none_⟩|⟨N,i,b1,b2,b3,b4,b5,b6⟩
  ·have l0:t.probe (fun i=>((es[i]?).map (·.1)).getD 0) (Aq knd k) (pr t.mask (Aq knd k) n)=some (.empty (pos t.mask (Aq knd k) ne) none):=fL
   show wpAny _ _ (match t.probe (fun i=>((es[i]?).map (·.1)).getD 0) (Aq knd k) (pr t.mask (Aq knd k) n) with|some met=>_|_=>_) _ _ s;rw[l0];dsimp only;refine Ac (h2 fun p=>?_);obtain⟨c,P,U⟩:=X.ke k p;obtain⟨i,hi,a⟩:=List.mem_iff_getElem.mp P;have C:es[i]?=some (Aq knd k,.ref c):=by
    rw[<-AT,Af hi,a]
   have D:i<t.place.size:=by rw[T.size,Array.size_map];simpa using hi
   have F:t.place[i]?=some t.place[i]:=getElem?_pos t.place i D;obtain⟨N,W,L⟩:=EL T he (k:=i) (by rw[hA,C];rfl) F;rcases Nat.lt_or_ge N n with q|q
   ·exact I N i c q (by rw[L];exact F) C U
   ·exact none_ N i q W (by rw[L];exact F) (by show((es[i]?).map (·.1)).getD 0=_;rw[C];rfl)
  ·show wpAny _ _ (match t.probe (fun i=>((es[i]?).map (·.1)).getD 0) (Aq knd k) (pr t.mask (Aq knd k) n) with|some met=>_|_=>_) _ _ s
   rw[b5];dsimp only;have hi:i<es.size:=by
    have:=(Array.getElem?_eq_some_iff.mp b3).1;rw[T.size,Array.size_map] at this;exact this
   have a:es[i]?=some es[i]:=getElem?_pos es i hi;obtain⟨j,c,hk',Y,hc⟩:=X.el es[i] (by simp);rw[Y] at a;have eh:Aq knd j=Aq knd k:=by
    have:((es[i]?).map (·.1)).getD 0=Aq knd k:=b4;rw[a] at this;exact this
   rw[eh] at a;have l:t.sameMemory t.moves t.mask=some true:=by unfold SetTable.sameMemory;rw[if_pos (by simp)]
   have d:j≠k->wpAny (model prog w) A (setSearchFrom S (.ref b) (Aq knd k) add fuel (some (pr t.mask (Aq knd k) (N+1)))) Q E s:=fun eq=>by
    refine ih (N+1) _ ω ω rfl fun m i2 u q1 v h J=>?_;rcases Nat.lt_or_ge m n with z|z
    ·exact I m i2 u z v h J
    ·rcases Nat.lt_or_ge m N with z2|z2
     ·exact b6 m i2 z z2 v (by show((es[i2]?).map (·.1)).getD 0=_;rw[h];rfl)
     ·have:m=N:=ω
      subst this;have:=T.ris.inj v b3;subst this;rw[a] at h;cases h;exact eq (IsTupleKey.inj hc J)
   cases led:t.led
   all_goals simp only[Bf,Bool.not_false,Aj,if_true,if_false]
   ·refine Aa (EV hk (fun y hy=>?_) ?_)
    ·obtain⟨e,f,rfl⟩:=List.mem_map.mp hy
     rw[Array.toList_filter] at f;obtain⟨k2,u,_,e2,gB⟩:=X.el e (List.mem_filter.mp f).1;exact⟨k2,u,by rw[e2],gB⟩
    simp only[Aj,if_false];rw[a];refine Aa (AI (wpAny_eqBool_tuple hu hc hk ?_));refine Aa (Bd X.at_ X.dt x ?_)
    by_cases eq:j=k
    ·subst eq
     cases add
     ·simp only[decide_true,Bool.false_and,Aj,if_false]
      rw[l];simp only[if_true];rw[kn T b3];dsimp only;rw[a];refine Aa (wpAny_isSame_ref_self (Aa (Ac ?_)));simp only[if_true];exact Ac (h1 hk' _ fun _=>rfl)
     ·simp only[decide_true,Bool.and_self,if_true]
      exact Ac (h1 hk' _ fun z=>by cases z)
    ·rw[decide_eq_false eq]
     simp only[Bool.and_false,Aj,if_false];rw[l];simp only[if_true];rw[kn T b3];dsimp only;rw[a];refine Aa (wpAny_isSame_ref_self (Aa (Ac ?_)));simp only[if_true];exact d eq
   ·rw[a]
    refine Aa (AI (wpAny_eqBool_tuple hu hc hk ?_));refine Aa (Bd X.at_ X.dt x ?_)
    by_cases eq:j=k
    ·subst eq
     cases add
     ·simp only[decide_true,Bool.false_and,Aj,if_false]
      rw[l];simp only[if_true];rw[kn T b3];dsimp only;rw[a];refine Aa (wpAny_isSame_ref_self (Aa (Ac ?_)));simp only[if_true];exact Ac (h1 hk' _ fun _=>rfl)
     ·simp only[decide_true,Bool.and_self,if_true]
      exact Ac (h1 hk' _ fun z=>by cases z)
    ·rw[decide_eq_false eq]
     simp only[Bool.and_false,Aj,if_false];rw[l];simp only[if_true];rw[kn T b3];dsimp only;rw[a];refine Aa (wpAny_isSame_ref_self (Aa (Ac ?_)));simp only[if_true];exact d eq
def iR{h h':Heap}{S b:Addr}{k:List K}{o:Obj}{es ep t}(hk:AJ knd h k b)(f:h.get? S=some o)(hd:o.data=.set es ep t)(hs:AR S h h'):AJ knd h' k b:=by
 obtain⟨o',e,n,c,hc,a,hi⟩:=hk;have d:b≠S:=by
  rintro rfl;obtain rfl:o'=o:=Al (c.symm.trans f);rw[hd] at a;exact nomatch a
 exact⟨o',e,n,(hs.2 b d).trans c,hc,a,hi⟩
def EW{ks:List K}{b:Addr}{Q:Bool->Shared->Prop}(f:∀k v n,knd.is k v=true->hashByValue n v=pure true)(hk:AJ knd s.heap ks b)(h:Q true s):wpAny (model prog w) A (hashByValue 8 (.ref b)) Q E s:=by
 have hT:=hk.typeIs;obtain⟨o,d,n,e,_,hd,hi⟩:=hk;unfold hashByValue;refine Aa (wpAny_specialOf hT F.slot_tuple_hash.lookup ?_);dsimp only;refine Aa (wpAny_seqItems e hd ?_);refine Aa ?_;show wpAny _ _ (forIn d _ _) _ _ s;rw[<-Array.forIn_toList];refine wpAny_forIn_list _ (fun rest r s'=>r.1=none/\s'=s/\∃c,ItemsAre knd c rest) _ ?_ ?_ _ _ ⟨rfl,rfl,ks,hi⟩
 ·rintro v rest r s' ⟨hr,rfl,c,a⟩
  cases a with
  |@cons k _ ks'' _ h1 h2=>
   rw[f k v 7 h1];refine Aa (Ac ?_);simp only[Bf,Aj,if_false];exact Ac ⟨rfl,rfl,ks'',h2⟩
 ·rintro⟨g,i⟩ s' ⟨hr,rfl,_⟩
  simp only at hr;subst hr;exact Ac h
def yC{h:Heap}{S:Addr}{o:Obj}{es:Array (Int×Value)}{ep:Nat}{t:SetTable}{a:Array (Int×Value)}{t':SetTable}(b:h.get? S=some o)(hd:o.data=.set es ep t):(h.update S (Obj.putSet a t')).get? S=some {o with data:=.set a (ep+1) t'}:=by
 have:=Heap.get?_update_self (Obj.putSet a t') b (by rw[putSet_of a t' hd];rfl);rw[putSet_of a t' hd] at this;exact this
def yD{b:Type}{es:Array b}:∀{l:List Nat},(∀q∈l,q<es.size)->∃a:List b,l.filterMap (es[·]?)=a/\a.length=l.length/\(∀x∈a,x∈es.toList)/\(∀(i q:Nat),l[i]?=some q->a[i]?=es[q]?)
 |[],_=>⟨[],rfl,rfl,(fun x hx=>by cases hx),(fun i q e=>by cases i<;>simp at e)⟩
 |q::l,h=>by
  obtain⟨a,e1,e2,e3,c⟩:=yD (l:=l) fun x hx=>h x (Ay _ hx);have hq:=h q AB;refine⟨es[q]::a,?_,by rw[Aw,Aw,e2],fun x hx=>?_,fun i p e=>?_⟩
  ·rw[List.filterMap_cons,getElem?_pos es q hq,e1]
  ·rcases List.mem_cons.mp hx with rfl|hx
   ·simp
   ·exact e3 x hx
  ·cases i with
   |zero=>simp at e;subst e;simp[getElem?_pos es q hq]
   |succ i=>simp at e ⊢;exact c i p e
def yE{B:List Addr}{S:Addr}{o:Obj}{es:Array (Int×Value)}{ep:Nat}{t:SetTable}{ks:List (List K)}{r a:Nat}(g:s.heap.get? S=some o)(hex:o.ExactSet)(hd:o.data=.set es ep t)(T:Tb t (es.map (·.1)))(hsz:es.size=ks.length)(nd:ks.Nodup)(ad:∀e∈es.toList,∃b∈B,e.2=Value.ref b)(el:∀e∈es.toList,∃k b,k∈ks/\e=(Aq knd k,Value.ref b)/\AJ knd s.heap k b)(ke:∀k∈ks,∃b,(Aq knd k,Value.ref b)∈es.toList/\AJ knd s.heap k b)(hw:SetTable.sizeAbove r-1=a)(hG:SetTable.sizeAbove r<=sizeLine)(hc:ee a)(ho:a%2=1)(hr:es.size<=a)(hz:es.size<=1000)(uK:(a=7/\es.size<=4)\/(a=31/\es.size<=18)\/(a=127/\es.size<=76)\/(a=15/\es.size<=8)\/(a=63/\es.size<=37)\/(a=255/\es.size<=152))(wk:w.params.followText "set-order"=true\/(t.led=true/\t.plain=true)){Q:Unit->Shared->Prop}(h:∀h' o' J L t',TS knd h' S o' J L t' ks B->AR S s.heap h'->Q () {s with heap:=h'}):wpAny (model prog w) A (setRelay S r) Q E s:=by
 have W:=fits_of T;unfold setRelay;refine Aa (Bd g hd W ?_);dsimp only;rw[if_neg (Nat.not_lt.mpr hG)];obtain⟨f,c,e1,e2,e3,M,u,N,j,O⟩:=ET hc ho t.finger (t.movedTo a) t.led t.plain (es.map (·.1)) (by rw[Array.size_map];exact hr);have X:t.relaid (es.map (·.1)) r=some (f,c):=by
  unfold SetTable.relaid;rw[hw];exact e1
 rw[Array.size_map] at u j;obtain⟨d,f1,f2,F,G⟩:=yD (es:=es) j;have H:c.filterMap (es[·]?)=d.toArray:=by
  apply Array.toList_inj.mp;rw[Array.toList_filterMap,f1]
 have l:d.length=es.size:=by rw[f2,AQ,u]
 rw[X];refine Aa ?_;show wpAny _ _ (ite (((c.filterMap (es[·]?)).size != es.size)=true) _ _) _ _ _;rw[if_neg (by rw[H,Ai,l];simp),H];refine Ac ?_;dsimp only;have Y:(d.toArray.map (·.1))=c.map fun q=>((es.map (·.1))[q]?).getD 0:=by
  apply Array.ext_getElem?;intro i;rw[Array.getElem?_map,Array.getElem?_map,List.getElem?_toArray];cases q:c[i]? with
  |none=>
   have:c.toList.length<=i:=by rw[AQ];exact Array.getElem?_eq_none_iff.mp q
   rw[List.getElem?_eq_none ω]
   rfl
  |some p=>
   have e:=G i p (by rw[AT];exact q);have hp:=j p (by rw[<-AT] at q;exact An q);rw[e,getElem?_pos es p hp];simp[hp]
 have T2:Tb f (d.toArray.map (·.1)):=by rw[Y];exact O
 have C:∀q,q<es.size->q∈c.toList:=fun q hq=>Classical.byContradiction fun z=>by
  have D:(q::c.toList).Nodup:=List.nodup_cons.mpr ⟨z,N⟩;have sub:(q::c.toList) ⊆ Bb es.size:=fun x hx=>by
   rcases List.mem_cons.mp hx with rfl|hx
   ·exact List.mem_range.mpr hq
   ·exact List.mem_range.mpr (j x hx)
  have:=D.length_le_of_subset sub;rw[Aw,AQ,u,List.length_range] at this;omega
 refine wpAny_storeSet_of g hd ?_ (by rw[Ai,l,sizeLine_eq];omega);refine h _ {o with data:=.set d.toArray (ep+1) f} d.toArray (ep+1) f ?_ (AS ..);have I:AR S s.heap (s.heap.update S (Obj.putSet d.toArray f)):=AS ..;refine⟨yC g hd,hex,rfl,T2,by rw[Ai,l];exact hsz,nd,fun e he=>?_,fun k hk=>?_,?_,fun e he=>ad e (F e he),by rw[e3,M];exact wk⟩
 ·obtain⟨k,b,v,y,P⟩:=el e (F e he)
  exact⟨k,b,v,y,iR P g hd I⟩
 ·obtain⟨b,v,y⟩:=ke k hk
  refine⟨b,?_,iR y g hd I⟩;obtain⟨q,hq,eq⟩:=List.mem_iff_getElem.mp v;rw[AQ] at hq;obtain⟨i,hi,U⟩:=List.mem_iff_getElem.mp (C q hq);have e:=G i q (by rw[Af hi,U]);refine An (i:=i) ?_;rw[e,<-eq];simp[hq]
 ·rw[e2,Ai,l]
  exact uK
def ins_map{a b:Type}(f:a->b)(xs:Array a)(p:Nat)(x:a)(hp:p<=xs.size):(insertAt xs p x).map f=insertAt (xs.map f) p (f x):=by
 apply Array.ext_getElem?;intro i;rw[Array.getElem?_map,ew _ _ _ hp,ew _ _ _ (by rw[Array.size_map];exact hp),Array.getElem?_map,Array.getElem?_map]
 by_cases h1:i<p
 ·rw[if_pos h1,if_pos h1]
 ·rw[if_neg h1,if_neg h1]
  by_cases h2:i=p
  ·rw[if_pos h2,if_pos h2];rfl
  ·rw[if_neg h2,if_neg h2]
def ins_mem{a:Type}{xs:Array a}{p:Nat}{x y:a}(hp:p<=xs.size):y∈(insertAt xs p x).toList↔y=x\/y∈xs.toList:=by
 constructor
 ·intro h
  obtain⟨i,hi,e⟩:=List.mem_iff_getElem.mp h;have e2:(insertAt xs p x)[i]?=some y:=by rw[<-AT,Af hi,e]
  rw[ew _ _ _ hp] at e2
  by_cases h1:i<p
  ·rw[if_pos h1,<-AT] at e2;exact .inr (An e2)
  ·rw[if_neg h1] at e2
   by_cases h2:i=p
   ·rw[if_pos h2] at e2;exact .inl (Al e2).symm
   ·rw[if_neg h2,<-AT] at e2;exact .inr (An e2)
 ·rintro(rfl|h)
  ·refine An (i:=p) ?_
   rw[AT,ew _ _ _ hp,if_neg (Nat.lt_irrefl _),if_pos rfl]
  ·obtain⟨i,hi,e⟩:=List.mem_iff_getElem.mp h
   have e2:xs[i]?=some y:=by rw[<-AT,Af hi,e]
   by_cases h1:i<p
   ·refine An (i:=i) ?_
    rw[AT,ew _ _ _ hp,if_pos h1];exact e2
   ·refine An (i:=i+1) ?_
    rw[AT,ew _ _ _ hp,if_neg ω,if_neg ω,Nat.add_sub_cancel];exact e2
def yF{B:List Addr}{S:Addr}{o:Obj}{es:Array (Int×Value)}{ep:Nat}{t:SetTable}{ks:List (List K)}(X:TS knd s.heap S o es ep t ks B)(hu:A.units<cLine)(hv:∀k v n,knd.is k v=true->hashByValue n v=pure true){k:List K}{b:Addr}(hk:AJ knd s.heap k b)(nN:b∈B)(hn:ks.length<60){Q:Bool->Shared->Prop}(h:∀(r:Bool) h' o' bK a_ t',TS knd h' S o' bK a_ t' (if k∈ks then ks else ks++[k]) B->AR S s.heap h'->Q r {s with heap:=h'}):wpAny (model prog w) A (setAddHashed S (.ref b) (Aq knd k)) Q E s:=by
 unfold setAddHashed;refine AI ?_;have T:=X.tb;have dC:=fits_of T;have X':TS knd s.heap S o es ep t ks B:=X;unfold setAddHashedIn;refine Aa (Bd (s:=s) X.at_ X.dt dC ?_);dsimp only;have nb:byScan (.ref b) es=false:=rfl;rw[nb];simp only[Aj,if_false];obtain⟨ne,J,he,hm⟩:=yy T (Aq knd k);refine Aa ?_;unfold setSearch;refine yB (s:=s) X' hu hk J he hm (fun Y r0 _=>?_) (fun c0=>?_) 100000 0 none ?_ (AK _) rfl (fun m i c fv=>absurd fv (Nat.not_lt_zero _))
 ·dsimp only
  refine Ac (h false s.heap o es ep t ?_ (Heap.SameBut.refl ..));rw[if_pos Y];exact X
 ·dsimp only
  refine Aa (Bd (s:=s) X.at_ X.dt dC ?_);dsimp only;have jG:(es.map (·.1)).size+1<=t.mask:=by
   rw[Array.size_map];rcases X.msk with ⟨a,b⟩|⟨a,b⟩|⟨a,b⟩|⟨a,b⟩|⟨a,b⟩|⟨a,b⟩<;>omega
  obtain⟨G,p2,I⟩:=EM T he hm jG;rw[Array.size_map] at G;obtain⟨j,p,j8⟩:∃j p,t.put (pos t.mask (Aq knd k) ne)=(j,p):=⟨_,_,rfl⟩;rw[j8] at G p2 I ⊢;dsimp only at G p2 I ⊢;have C:k∉ks:=c0;have H:(insertAt es p (Aq knd k,Value.ref b)).size=es.size+1:=ol _ _ _ G;have L:=X.sz;have fY:es.size<60:=ω
  have M:∀d:SetTable,Tb d (insertAt (es.map (·.1)) p (Aq knd k))->d.mask=t.mask->wpAny (model prog w) A (storeSet S (insertAt es p (Aq knd k,Value.ref b)) d)
    (fun _ s'=>∃h',s'={s with heap:=h'}/\h'.get? S=some {o with data:=.set (insertAt es p (Aq knd k,Value.ref b)) (ep+1) d}/\AR S s.heap h') E s:=fun d T2 m2=>
   wpAny_storeSet_of (s:=s) X.at_ X.dt ⟨_,rfl,yC X.at_ X.dt,AS ..⟩ (by rw[H,sizeLine_eq];omega)
  have N:(insertAt es p (Aq knd k,Value.ref b)).map (·.1)=insertAt (es.map (·.1)) p (Aq knd k):=ins_map (·.1) es p _ G;have kJ:(ks++[k]).Nodup:=by
   rw[List.nodup_append];refine⟨X.nd,by simp,fun x hx y hy=>?_⟩;rw[List.mem_singleton.mp hy];exact fun z=>C (z▸hx)
  have O:∀h',AR S s.heap h'->∀e∈(insertAt es p (Aq knd k,Value.ref b)).toList,∃F u,F∈ks++[k]/\e=(Aq knd F,Value.ref u)/\AJ knd h' F u:=fun h' g e he=>by
   rcases(ins_mem G).mp he with rfl|he
   ·exact⟨k,b,by simp,rfl,iR hk X.at_ X.dt g⟩
   ·obtain⟨F,u,a1,a2,a3⟩:=X.el e he
    exact⟨F,u,List.mem_append_left _ a1,a2,iR a3 X.at_ X.dt g⟩
  have P:∀h',AR S s.heap h'->∀F∈ks++[k],∃u,(Aq knd F,Value.ref u)∈(insertAt es p (Aq knd k,Value.ref b)).toList/\AJ knd h' F u:=fun h' g F hk'=>by
   rcases List.mem_append.mp hk' with hk'|hk'
   ·obtain⟨u,a1,a2⟩:=X.ke F hk'
    exact⟨u,(ins_mem G).mpr (.inr a1),iR a2 X.at_ X.dt g⟩
   ·rw[List.mem_singleton.mp hk']
    exact⟨b,(ins_mem G).mpr (.inl rfl),iR hk X.at_ X.dt g⟩
  have U:∀e∈(insertAt es p (Aq knd k,Value.ref b)).toList,∃u∈B,e.2=Value.ref u:=fun e he=>by
   rcases(ins_mem G).mp he with rfl|he
   ·exact⟨b,nN,rfl⟩
   ·exact X.ad e he
  have D:∀(d:SetTable)(h':Heap),Tb d (insertAt (es.map (·.1)) p (Aq knd k))->d.mask=t.mask->(w.params.followText "set-order"=true\/(d.led=true/\d.plain=true))->h'.get? S=some {o with data:=.set (insertAt es p (Aq knd k,Value.ref b)) (ep+1) d}->AR S s.heap h'->
    wpAny (model prog w) A (if(!false&&d.tooFull)=true then(setRelay S (SetTable.grown (es.size+1)) >>= fun _=>pure true) else pure true) Q E {s with heap:=h'}:=fun d h' T2 m2 oP hg g=>by
   have T2':Tb d ((insertAt es p (Aq knd k,Value.ref b)).map (·.1)):=by rw[N];exact T2
   have fl:d.fill=es.size+1:=by
    unfold SetTable.fill;rw[T2'.dum,T2'.size,Array.size_map,H]
    rfl
   have tf:d.tooFull=decide ((es.size+1)*5 ≥ t.mask*3):=by unfold SetTable.tooFull;rw[fl,m2]
   have lk:es.size+1=(ks++[k]).length:=by rw[AC,L];rfl
   have stay:((es.size+1)*5<t.mask*3)->((d.mask=7/\es.size+1<=4)\/(d.mask=31/\es.size+1<=18)\/(d.mask=127/\es.size+1<=76)\/(d.mask=15/\es.size+1<=8)\/(d.mask=63/\es.size+1<=37)\/(d.mask=255/\es.size+1<=152))->wpAny (model prog w) A (if(!false&&d.tooFull)=true then(setRelay S (SetTable.grown (es.size+1)) >>= fun _=>pure true) else pure true) Q E {s with heap:=h'}:=fun q mk=>by
    rw[tf,decide_eq_false ω];simp only[Bool.and_false,Aj,if_false];refine Ac (h true h' {o with data:=.set (insertAt es p (Aq knd k,Value.ref b)) (ep+1) d} (insertAt es p (Aq knd k,Value.ref b)) (ep+1) d ?_ g);rw[if_neg C];exact⟨hg,X.ex,rfl,T2',by rw[H];exact lk,kJ,O h' g,P h' g,by rw[H];exact mk,U,oP⟩
   have f:∀l n,es.size+1=n->((es.size+1)*5 ≥ t.mask*3)->SetTable.sizeAbove (SetTable.grown n)-1=l->SetTable.sizeAbove (SetTable.grown n)<=1000->ee l->l%2=1->es.size+1<=l->((l=7/\es.size+1<=4)\/(l=31/\es.size+1<=18)\/(l=127/\es.size+1<=76)\/(l=15/\es.size+1<=8)\/(l=63/\es.size+1<=37)\/(l=255/\es.size+1<=152))->
     wpAny (model prog w) A (if(!false&&d.tooFull)=true then(setRelay S (SetTable.grown (es.size+1)) >>= fun _=>pure true) else pure true) Q E {s with heap:=h'}:=fun l n en q w1 w2 c1 c2 c3 mk=>by
    rw[tf,decide_eq_true q];simp only[Bool.not_false,Bool.and_self,if_true];subst en;refine Aa (yE (s:={s with heap:=h'}) (ks:=ks++[k]) hg X.ex rfl T2' (by rw[H];exact lk) kJ U (O h' g) (P h' g) w1 (by rw[sizeLine_eq];omega) c1 c2 (by rw[H];exact c3) (by rw[H];omega) (by rw[H];exact mk) oP fun c9 lz gC gl lB q9 mh=>?_);refine Ac (h true c9 lz gC gl lB ?_ (g.trans mh));rw[if_neg C];exact q9
   rcases X.msk with ⟨a,c⟩|⟨a,c⟩|⟨a,c⟩|⟨a,c⟩|⟨a,c⟩|⟨a,c⟩
   ·by_cases q:es.size+1<=4
    ·exact stay ω (.inl ⟨ω,q⟩)
    ·exact f 31 5 ω ω δ δ iL rfl ω (.inr (.inl ⟨rfl,ω⟩))
   ·by_cases q:es.size+1<=18
    ·exact stay ω (.inr (.inl ⟨ω,q⟩))
    ·exact f 127 19 ω ω δ δ fI rfl ω (.inr (.inr (.inl ⟨rfl,ω⟩)))
   ·exact stay ω (.inr (.inr (.inl ⟨ω,ω⟩)))
   ·by_cases q:es.size+1<=8
    ·exact stay ω (.inr (.inr (.inr (.inl ⟨ω,q⟩))))
    ·exact f 63 9 ω ω δ δ iM rfl ω (.inr (.inr (.inr (.inr (.inl ⟨rfl,ω⟩)))))
   ·by_cases q:es.size+1<=37
    ·exact stay ω (.inr (.inr (.inr (.inr (.inl ⟨ω,q⟩)))))
    ·exact f 255 38 ω ω δ δ jC rfl ω (.inr (.inr (.inr (.inr (.inr ⟨rfl,ω⟩)))))
   ·exact stay ω (.inr (.inr (.inr (.inr (.inr ⟨ω,ω⟩)))))
  have W:w.params.followText "set-order"=true\/(j.led=true/\j.plain=true):=by
   have e1:j=(t.put (pos t.mask (Aq knd k) ne)).1:=by rw[j8]
   have e2:j.led=t.led:=by rw[e1];rfl
   have e3:j.plain=t.plain:=by rw[e1];rfl
   rw[e2,e3];exact X.wk
  cases hpl:j.plain with
  |true=>
   simp only[if_true];refine Aa (EW (s:=s) hv hk ?_);simp only[if_true];refine Aa (A9 (M j I p2) (fun _ s' au=>?_) fun _ _ e=>e);obtain⟨h',rfl,g1,g2⟩:=au;exact D j h' I p2 W g1 g2
  |false=>
   simp only[Aj,if_false];refine Aa (Ac ?_);simp only[if_true];refine Aa (A9 (M j I p2) (fun _ s' au=>?_) fun _ _ e=>e);obtain⟨h',rfl,g1,g2⟩:=au;exact D j h' I p2 W g1 g2
 ·have:t.mask<=255:=by rcases X.msk with ⟨a,_⟩|⟨a,_⟩|⟨a,_⟩|⟨a,_⟩|⟨a,_⟩|⟨a,_⟩<;>omega
  unfold turns at J;omega
def EY{B:List Addr}{S:Addr}{o:Obj}{es:Array (Int×Value)}{ep:Nat}{t:SetTable}{ks:List (List K)}(X:TS knd s.heap S o es ep t ks B)(hu:A.units<cLine)(a:∀k v n,knd.is k v=true->hashByValue n v=pure true){k:List K}{b:Addr}(hk:AJ knd s.heap k b)(c:b∈B)(d:ks.length<60){Q:Bool->Shared->Prop}(h:∀(r:Bool) h' o' bK a_ t',TS knd h' S o' bK a_ t' (if k∈ks then ks else ks++[k]) B->AR S s.heap h'->Q r {s with heap:=h',toks:=s.toks+(k.length+1)}):wpAny (model prog w) A (setAdd S (.ref b)) Q E s:=by
 unfold setAdd;exact AI (Aa (wpAny_pyHash_tuple hu hk (yF (s:={s with toks:=s.toks+(k.length+1)}) X hu a hk c d h)))
end
end STb
end
section
namespace STb
def dd{a:Type}[DecidableEq a](l:List a):List a:=l.foldl (fun acc x=>if x∈acc then acc else acc++[x]) []
def g0{a:Type}[DecidableEq a](l:List a)(x:a):dd (l++[x])=if x∈dd l then dd l else dd l++[x]:=by unfold dd;rw[List.foldl_append];rfl
def gi{a:Type}[DecidableEq a](l:List a):(dd l).length<=l.length:=by
 have:∀(l acc:List a),(l.foldl (fun acc x=>if x∈acc then acc else acc++[x]) acc).length<=acc.length+l.length:=by
  intro l
  induction l with
  |nil=>intro acc;simp
  |cons x l ih=>
   intro acc;rw[List.foldl_cons];refine AF (ih _) ?_;split
   ·rw[Aw];omega
   ·rw[AC,Aw,Aw,List.length_nil];omega
 simpa[dd] using this l []
def jE{a:Type}[DecidableEq a](l:List a)(x:a):x∈dd l↔x∈l:=by
 have:∀(l acc:List a),x∈(l.foldl (fun acc x=>if x∈acc then acc else acc++[x]) acc)↔x∈acc\/x∈l:=by
  intro l
  induction l with
  |nil=>intro acc;simp
  |cons y l ih=>
   intro acc;rw[List.foldl_cons,ih]
   by_cases h:y∈acc
   ·rw[if_pos h,List.mem_cons]
    constructor
    ·rintro(q|q)
     ·exact .inl q
     ·exact .inr (.inr q)
    ·rintro(q|q|q)
     ·exact .inl q
     ·subst q;exact .inl h
     ·exact .inr q
   ·rw[if_neg h,List.mem_append,List.mem_singleton,List.mem_cons]
    constructor
    ·rintro((q|q)|q)
     ·exact .inl q
     ·exact .inr (.inl q)
     ·exact .inr (.inr q)
    ·rintro(q|q|q)
     ·exact .inl (.inl q)
     ·exact .inl (.inr q)
     ·exact .inr q
 simpa[dd] using this l []
def oy{c:Type}[DecidableEq c](l:List c):(dd l).Nodup:=by
 have:∀(l acc:List c),acc.Nodup->(l.foldl (fun acc x=>if x∈acc then acc else acc++[x]) acc).Nodup:=by
  intro l
  induction l with
  |nil=>intro acc h;exact h
  |cons y l ih=>
   intro acc h;rw[List.foldl_cons]
   by_cases q:y∈acc
   ·rw[if_pos q];exact ih acc h
   ·rw[if_neg q]
    refine ih _ ?_;rw[List.nodup_append];refine⟨h,by simp,fun a d b hb e=>?_⟩;rw[List.mem_singleton] at hb;subst hb;subst e;exact q d
 exact this l [] List.nodup_nil
def EZ{a:Type}[DecidableEq a](l m:List a):(dd (l++m)).length<=(dd l).length+m.length:=by
 have:∀(m acc:List a),(m.foldl (fun acc x=>if x∈acc then acc else acc++[x]) acc).length<=acc.length+m.length:=by
  intro m
  induction m with
  |nil=>intro acc;simp
  |cons x l ih=>
   intro acc;rw[List.foldl_cons];refine AF (ih _) ?_;split
   ·rw[Aw];omega
   ·rw[AC,Aw,Aw,List.length_nil];omega
 unfold dd;rw[List.foldl_append];exact this m _
def E1{a:Type}[DecidableEq a](l:List a)(h:∀(k:Nat) x,l[k]?=some x->x∉l.take k):dd l=l:=by
 have:∀k,k<=l.length->dd (l.take k)=l.take k:=by
  intro k
  induction k with
  |zero=>intro _;rfl
  |succ k ih=>
   intro hk;have hx:l[k]?=some l[k]:=Af ω;rw[List.take_add_one,hx];show dd (l.take k++[l[k]])=_;rw[g0,ih ω,if_neg (h k _ hx)]
   rfl
 have q:=this l.length (Ah _);rw[Ax (Ah _)] at q;exact q
def E2{a:Type}[DecidableEq a](l:List a){k:Nat}{x:a}(h:l[k]?=some x)(hx:x∈l.take k):(dd l).length<l.length:=by
 have hk:k<l.length:=(List.getElem?_eq_some_iff.mp h).1;have e:l=(l.take k++[x])++l.drop (k+1):=by
  have:=List.take_append_drop (k+1) l;rw[List.take_add_one,h] at this;exact this.symm
 have h1:=EZ (l.take k++[x]) (l.drop (k+1));rw[<-e,g0,if_pos ((jE _ _).mpr hx)] at h1;have h2:=gi (l.take k);rw[AM] at h2;rw[List.length_drop] at h1;omega
def E4{a:Type}[DecidableEq a](l:List a):(dd l).length<l.length↔∃(k:Nat)(x:a),l[k]?=some x/\x∈l.take k:=by
 constructor
 ·intro h
  apply Classical.byContradiction;intro n;have:=E1 l fun k x e hx=>n ⟨k,x,e,hx⟩;rw[this] at h;exact Nat.lt_irrefl _ h
 ·rintro⟨k,x,e,hx⟩
  exact E2 l e hx
end STb
end
section
set_option maxHeartbeats 3200000
namespace STb
open PySem PySem.SetTable PyProof.Rows
section
variable{prog:Program}{w:World}{K:Type}[DecidableEq K]{knd:KeyKind prog w K}{A:Around}{R:Result->Shared->Prop}{I:Addr}{fp wr:List Addr}{G:Array GenState->Array GenState->Prop}{n:Nat}{P:Nat->Value->Prop}{St:Nat->Shared->Prop}
def TS.moved{B:List Addr}{h h':Heap}{S:Addr}{o:Obj}{es:Array (Int×Value)}{ep:Nat}{t:SetTable}{ks:List (List K)}(X:TS knd h S o es ep t ks B)(a:h'.get? S=some o)(hk:∀k b,AJ knd h k b->AJ knd h' k b):TS knd h' S o es ep t ks B:=
 ⟨a,X.ex,X.dt,X.tb,X.sz,X.nd,fun e he=>let ⟨k,b,a1,a2,a3⟩:=X.el e he;⟨k,b,a1,a2,hk k b a3⟩,fun k hk'=>let ⟨b,a1,a2⟩:=X.ke k hk';⟨b,a1,hk k b a2⟩,X.msk,X.ad,X.wk⟩
def oB{h h':Heap}{k:List K}{b:Addr}(hk:AJ knd h k b)(e:∀o,h.get? b=some o->h'.get? b=some o):AJ knd h' k b:=by
 obtain⟨o,a,n,c,r⟩:=hk;exact⟨o,a,n,e o c,r⟩
def E5{B:List Addr}(W:WalksS prog w A.in1 I fp wr G n P St)(hu:A.in1.units<cLine)(hv:∀k v n,knd.is k v=true->hashByValue n v=pure true)(S:Addr)(l:S∉fp)(vals:List (List K))(adr:Nat->Addr)(hn:vals.length=n)(hB:∀i,i<n->adr i∈B)(hz:n<=59)(mY:∀i v,P i v->v=.ref (adr i))(hna:∀b o,(∃p m,o.cls=Value.type "tuple"/\o.data=.seq p m)->∀s i,St i s->s.heap.get? b=some o->b∉wr):∀(k i:Nat)(s:Shared),n-i=k->i<=n->St i s->(∃o es ep t,TS knd s.heap S o es ep t (dd (vals.take i)) B)->(∀(j:Nat)(x:List K),vals[j]?=some x->AJ knd s.heap x (adr j))->
   (∀s',Moved (S::wr) G s s'->(∃o es ep t,TS knd s'.heap S o es ep t (dd vals) B)->R (.ok (.ret .none)) s')->codeAny (model prog w) A (.builtin "set.update.loop" ⟨[.ref S,.ref I],[]⟩) R s:=by
 have f:S∉wr:=fun h=>l (W.sub _ h);have L:∀b∈wr,b∈S::wr:=fun b hb=>Ay _ hb;have u:∀{i:Nat}{s s':Shared}{x:List K}{b:Addr},St i s->Moved wr G s s'->AJ knd s.heap x b->AJ knd s'.heap x b:=fun{i s s' x b} a hm hk=>by
  obtain⟨o,p,m,J,hc,hd,hi⟩:=id hk;exact⟨o,p,m,hm.heap b o (hna b o ⟨p,m,hc,hd⟩ s i a J) J,hc,hd,hi⟩
 intro k
 induction k with
 |zero=>
  intro i s hk hi a z hT hR;have D:i=n:=ω
  subst D;refine Bh F.entry_set_update_loop ?_;rw[Around.under_plainId F.plain_set_update_loop _];show wpAny _ A.in1 (pyNext (.ref I) >>= _) _ _ s;refine Aa (W.done s _ _ a fun s' hm=>?_);show wpAny _ A.in1 (ret Value.none) _ _ s';refine Ac (hR s' (hm.mono L) ?_);obtain⟨o,es,ep,t,X⟩:=z;rw[Ax ω] at X;exact⟨o,es,ep,t,X.moved (hm.heap S _ f X.at_) fun k b hk=>u a hm hk⟩
 |succ k ih=>
  intro i s hk hi a z hT hR;have c:i<n:=ω
  refine Bh F.entry_set_update_loop ?_;rw[Around.under_plainId F.plain_set_update_loop _];show wpAny _ A.in1 (pyNext (.ref I) >>= _) _ _ s;refine Aa (W.item i s _ _ c a fun v s' N O hm=>?_);obtain rfl:=mY i v N;obtain⟨o,es,ep,t,X⟩:=z;have X':TS knd s'.heap S o es ep t (dd (vals.take i)) B:=X.moved (hm.heap S _ f X.at_) fun k b hk=>u a hm hk;have hx:vals[i]?=some vals[i]:=Af ω;have g:=gi (vals.take i);rw[AM] at g;show wpAny _ A.in1 (holding [Value.ref (adr i)] (setAdd S (.ref (adr i))) >>= _) _ _ s';refine Aa (AI (EY X' hu hv (u a hm (hT i _ hx)) (hB i c) ω fun r h' o' E H t' y C=>?_));have M:s'.toks<=s'.toks+(vals[i].length+1):=Nat.le_add_right _ _;have de:St (i+1) {s' with heap:=h',toks:=s'.toks+(vals[i].length+1)}:=W.frame _ s' _ _ O M fun b hb Q e=>by
   rw[C.2 b (fun h:b=S=>l (by rw[<-h];exact hb))];exact e
  have d:vals.take (i+1)=vals.take i++[vals[i]]:=by rw[List.take_add_one,hx];rfl
  have X3:TS knd h' S o' E H t' (dd (vals.take (i+1))) B:=by
   rw[d,g0]
   by_cases q:vals[i]∈dd (vals.take i)
   ·rw[if_pos q] at y ⊢;exact y
   ·rw[if_neg q] at y ⊢;exact y
  refine Ac ⟨plainId_quiet F.plain_set_update_loop _,ih (i+1) _ ω c de ⟨o',E,H,t',X3⟩ (fun j x T=>iR (u a hm (hT j x T)) X'.at_ X'.dt C) fun U Y ou=>?_⟩;refine hR U (Moved.trans W.gtrans ((hm.mono L).then_heap M fun b Q hb e=>?_) Y) ou;rw[C.2 b (fun h:b=S=>hb (by rw[h];exact AB))];exact e
end
end STb
end
section
namespace STb
open PySem PySem.SetTable PyProof.Rows
section
variable{prog:Program}{w:World}{K:Type}[DecidableEq K]{knd:KeyKind prog w K}{A:Around}{E:Ω}{s:Shared}
def vb(a:Value){Q₁:Ω}(h:Q₁ (.ref s⁻¹) {s with heap:=s.heap.push {cls:=.type "set",dict:=none,data:=.set #[] 0 (.fresh 0 0 (!w.params.followText "set-order"))}}):codeAny (model prog w) A (.call (.builtin "set.__new__") ⟨[.type "set",a],[]⟩) (wants Q₁ E) s:=by
 refine codeAny_of_tree (show wpAny _ A.in1 (do checkBuiltinCall "set.__new__" ⟨[.type "set",a],[]⟩;again (.builtin "set.__new__" ⟨[.type "set",a],[]⟩)) _ _ s from Aa (wpAny_of_eq (F.newCall_set_1 a) (Ac ⟨plainId_quiet F.plain_set_new _,Bh F.entry_set_new ?_⟩)));rw[Around.under_plainId F.plain_set_new _];unfold Builtin.«set.__new__» Builtin.Frozenset.newClass;have b:=sub_set_self;obtain⟨hp,g,d,tk,os⟩:=s;dsimp only;wp_walk;refine wpAny_askSetting (Ac ?_);dsimp only;simp only[newObj];exact Aa (wpAny_alloc (Ac (Ac h)))
def yG{B:List Addr}{l:Addr}{a:Array Value}{vals:List (List K)}{adr:Nat->Addr}{Q:Ω}(hh:A.handled=none)(hl:s.heap.IsList l a)(hu:A.units+64<cLine)(hv:∀k v n,knd.is k v=true->hashByValue n v=pure true)(hz:a.size<=59)(hn:vals.length=a.size)(hB:∀i,i<a.size->adr i∈B)(aN:∀(i:Nat) v,a[i]?=some v->v=.ref (adr i))(hT:∀(j:Nat) x,vals[j]?=some x->AJ knd s.heap x (adr j))(h:∀h' tk,(∃o es ep t,TS knd h' s⁻¹ o es ep t (dd vals) B)->(∀b o,b<s⁻¹->s.heap.get? b=some o->h'.get? b=some o)->Q (.ref s⁻¹) {s with heap:=h',toks:=tk}):wpAny (model prog w) A (call (.type "set") [.ref l]) Q E s:=by
 obtain⟨c,tl,c6⟩:=F.called_set.mro;have cE:=F.called_set.made;have aP:=F.called_set.sub;refine wpAny_call (codeAny_of_tree ?_);show wpAny _ _ (callAny (.type "set") _) _ _ _;refine Ac ⟨Code.quiet_builtin _ δ,Bh F.entry_type_call ?_⟩;rw[Around.under_plain (weight_type_call_type "set" [.ref l] []) rfl];have h1:=F.called_set.notType;have h2:=F.called_set.canCreate;have jq:=F.typeCall_set_1 (.ref l)
 repeat(any_goals(first|assumption|wp_step))
 refine Bc (vb (.ref l) (E:=E) (Q₁:=fun obj D=>∃led:Bool,(w.params.followText "set-order"=true\/led=true)/\obj=.ref s⁻¹/\D={s with heap:=s.heap.push {cls:=.type "set",dict:=none,data:=.set #[] 0 (.fresh 0 0 led)}}) ⟨_,by cases w.params.followText "set-order" <;> simp,rfl,rfl⟩) fun r D hr=>?_;cases r with
 |error e=>exact hr
 |ok fl=>
  cases fl with
  |ret obj=>
   obtain⟨led,O,rfl,rfl⟩:=hr;have J:(s.heap.push {cls:=.type "set",dict:=none,data:=.set #[] 0 (.fresh 0 0 led)}).get? s⁻¹=some {cls:=.type "set",dict:=none,data:=.set #[] 0 (.fresh 0 0 led)}:=Ar _ rfl;have X:Shared.TypeIs {s with heap:=s.heap.push {cls:=.type "set",dict:=none,data:=.set #[] 0 (.fresh 0 0 led)}} (.ref s⁻¹) "set":=⟨_,J,rfl⟩;have jL:=F.called_set.init.lookup;have jH:=F.called_set.init.bind (.ref s⁻¹)
   repeat(any_goals(first|assumption|wp_step))
   refine Bc (codeAny_call_builtin (R:=wants (fun r G=>r=.none/\∃h' tk,G={s with heap:=h',toks:=tk}/\
     (∃o es ep t,TS knd h' s⁻¹ o es ep t (dd vals) B)/\
     (∀b o,b<s⁻¹->s.heap.get? b=some o->h'.get? b=some o)) E) F.called_set.init.plain F.entry_set_init (check_set_init_1 X ?_)) fun M G u=>?_
   ·obtain⟨P,H,d,nl,I⟩:=hl
    obtain⟨qH,S,p5,T⟩:=P;simp only at d I;subst d;subst I;have Y:(s.heap.push {cls:=.type "set",dict:=none,data:=.set #[] 0 (.fresh 0 0 led)}).get? l=some {cls:=.type "list",dict:=S,data:=.seq a nl,slots:=T}:=Ad _ H;have sj:=F.sub_list_set;have u4:=F.sub_list_frozenset;have hne:(Value.type "list" == Value.type "dict")=false:=ξ
    have f:(s.heap.push {cls:=.type "set",dict:=none,data:=.set #[] 0 (.fresh 0 0 led)}).IsList l a:=⟨_,Y,rfl,nl,rfl⟩;unfold Builtin.«set.__init__» noKeywords Builtin.Frozenset.updateFrom;generalize hPI:pyIter=PI
    wp_walk
    subst hPI;refine wpAny_pyIter_list f ?_;refine Aa (wpAny_runValue ?_);have L:l<s⁻¹:=Ao H;have s_:A.in1.in1.in1.handled=none:=by simp[hh]
    have g:l≠(s.heap.push {cls:=.type "set",dict:=none,data:=.set #[] 0 (.fresh 0 0 led)}).objs.size:=by
     rw[Heap.size_push];exact Ap (Nat.lt_succ_of_lt L)
    have C:s⁻¹∉[(s.heap.push {cls:=.type "set",dict:=none,data:=.set #[] 0 (.fresh 0 0 led)}).objs.size,l]:=by
     rw[Heap.size_push];simp only[List.mem_cons,List.mem_singleton,List.not_mem_nil,or_false,not_or];exact⟨Ap (Nat.lt_succ_self _),Nat.ne_of_gt L⟩
    refine E5 (knd:=knd) ((Walks.list s_ _ l g a).toS) (by show A.units+1+1+1<cLine;omega) hv s⁻¹ C vals adr hn hB hz (fun i v q=>aN i v q) (fun b o N s' i st e hb=>?hna)
     (a.size-0) 0 _ ω (AK _) ⟨⟨_,Ar _ rfl,rfl,rfl⟩,(f.push _)⟩ ⟨{cls:=.type "set",dict:=none,data:=.set #[] 0 (.fresh 0 0 led)},#[],0,.fresh 0 0 led,?hS0⟩ (fun j x hx=>oB (hT j x hx) fun o e=>Ad _ (Ad _ e)) ?hR
    case hna=>
     obtain⟨⟨oi,e1,e2,_⟩,_⟩:=st;obtain⟨ag,m,hc,_⟩:=N;simp only[List.mem_singleton] at hb;subst hb;have e3:=Al (e1.symm.trans e);rw[<-e3,e2] at hc;exact absurd hc ξ
    case hS0=>
     have p:((s.heap.push {cls:=.type "set",dict:=none,data:=.set #[] 0 (.fresh 0 0 led)}).push {cls:=.type "list_iterator",data:=.fields #[.ref l,.int 0 0]}).get? s⁻¹
      =some {cls:=.type "set",dict:=none,data:=.set #[] 0 (.fresh 0 0 led)}:=Ad _ J
     exact⟨p,⟨rfl,rfl,rfl⟩,rfl,(by simpa using uA 0 0 led),rfl,List.nodup_nil,fun e he=>by simp at he,fun k hk=>by simp[dd] at hk,.inl ⟨rfl,AK _⟩,(fun e he=>by simp at he),O.imp id fun z=>⟨z,rfl⟩⟩
    case hR=>
     intro s' hm y;obtain⟨h',g',d',U,W⟩:=s';have eg:g'=s.gens:=hm.gens;have ed:d'=s.drawn:=hm.drawn;have eo:W=s.os:=hm.os;subst eg;subst ed;subst eo;show wpAny _ _ _ _ _ _;refine Ac ?_;show wpAny _ _ (ret Value.none) _ _ _;refine Ac ⟨rfl,h',U,rfl,y,fun b o hb e=>?_⟩;have cZ:b≠s⁻¹:=Ap hb;have bA:b≠(s.heap.push {cls:=.type "set",dict:=none,data:=.set #[] 0 (.fresh 0 0 led)}).objs.size:=by
      rw[Heap.size_push];exact Ap (Nat.lt_succ_of_lt hb)
     exact hm.heap b o (by simp only[List.mem_cons,List.mem_singleton,List.not_mem_nil,or_false,not_or];exact⟨cZ,bA⟩) (Ad _ (Ad _ e))
   ·cases M with
    |error e=>exact u
    |ok fl₂=>
     cases fl₂ with
     |ret r=>
      obtain⟨rfl,h',tk,rfl,y,hk'⟩:=u
      repeat(any_goals(first|assumption|wp_step))
      exact h _ _ y hk'
     |_=>exact u.elim
  |_=>exact hr.elim
end
end STb
namespace L2
open PySem PySem.Spec PyProof.Rows
def fM(D:Addr)(n:Nat):HO:=.ext fun h=>∃o es ep t,h.get? D=some o/\o.ExactSet/\o.data=.set es ep t/\t.fits es.size=true/\es.size=n/\n<=100
section
variable{X:Cx}
def vc{prog:Program}{w:World}:∀(k:Int)(v:Value)(n:Nat),(intKind prog w).is k v=true->hashByValue n v=pure true:=by
 intro k v n h;obtain⟨t,rfl⟩:=Value.isInt_shape h;cases n<;>rfl
def vf{prog:Program}{w:World}{h:Heap}{c:Addr}{cs:List Value}{a:List Int}(hc:IsTup h c cs.toArray)(hi:IntsAre cs a):AJ (intKind prog w) h a c:=by
 obtain⟨o,e,b,k,d⟩:=hc;refine⟨o,cs.toArray,k,e,b,d,?_⟩;have:∀{cs:List Value}{a:List Int},IntsAre cs a->ItemsAre (intKind prog w) a cs:=by
  intro cs a hi
  induction hi with
  |nil=>exact .nil
  |cons n t h ih=>exact .cons (by show Value.isInt n (.int n t)=true;simp[Value.isInt]) ih
 simpa using this hi
def E6(hc:X.calm=true)(hu:X.A.units+64<cLine):bU X (.type "set") (fun xs H Q=>∃(l:Addr)(as:List Addr)(pss:Ξ),xs=[.ref l]/\SqL X.K H l (as.map V.ref)/\Tps H as pss/\pss.length<=59/\
  ∀D,H D=none->Q (.ref D) (upd H D (fM D (STb.dd pss).length))):=by
 intro aa s σ H xs us Q I r h;obtain⟨l,as,pss,rfl,hq,hp,hz,q⟩:=h;obtain⟨u,rfl,z⟩:=vals1 r;cases z;obtain⟨C,E,F,_⟩:=I.list hq;obtain rfl:=aD E;have J:=hp.length;refine STb.yG (B:=as) (knd:=intKind X.prog X.w) (vals:=pss) (adr:=fun i=>as.getD i 0) (I.ok.hd hc) F.isList hu vc (by rw[Ai,Ab];omega) (by rw[Ai,Ab];omega) (fun i hi=>by rw[Ai,Ab] at hi;rw[AL,Af hi];exact A1 hi)
  (fun i v e=>?_) (fun j x e=>?_) fun h' tk ⟨o,es,ep,t,T⟩ f=>?_
 ·have e':(as.map Value.ref)[i]?=some v:=by simpa using e
  rw[Ak] at e';cases c:as[i]? with
  |none=>rw[c] at e';simp at e'
  |some a=>
   rw[c] at e';rw[<-Al e',AL,c]
   rfl
 ·have L:j<as.length:=by rw[J];exact(List.getElem?_eq_some_iff.mp e).1
  have c:as[j]?=some as[j]:=Af L;obtain⟨M,e1,e2⟩:=hp.get c;rw[e] at e1;obtain rfl:=Al e1;obtain⟨C,G,p2,_⟩:=I.tuple (SqT.of (K:=X.K) e2);rw[AL,c];exact vf p2 (intsAre_of G)
 ·have d:=STb.gi pss
  refine⟨.ref s⁻¹,_,I.laid (o:=fM s⁻¹ (STb.dd pss).length) (fun b u e=>f b u (Ao e) e) (Ah _) ?_,rfl,q _ (I.hok.fresh (Ah _))⟩;refine⟨⟨o,es,ep,t,T.at_,T.ex,T.dt,STb.fits_of T.tb,T.sz,ω⟩,⟨o,T.at_⟩,fun h1 h2 ⟨o',g,p,t',g1,g2⟩ y=>⟨o',g,p,t',y _ g1,g2⟩⟩
def E7:bU X (.builtin "len") (fun xs H Q=>∃D n,xs=[.ref D]/\H D=some (fM D n)/\Q (.int n) H):=by
 intro aa s σ H xs us Q I r h;obtain⟨D,n,rfl,hq,q⟩:=h;obtain⟨u,rfl,a⟩:=vals1 r;cases a;obtain⟨⟨o,es,ep,t,h1,h2,b,c,d,e⟩,_⟩:=(show zC X.prog X.w H s.heap D (fM D n) from I.hok D _ hq);exact call_len_set h1 h2 b c ω ⟨.int n,H,I.tok _,⟨_,by rw[d]⟩,q⟩
end
end L2
end
section
namespace Spl
open PySem PySem.Spec PySem.Builtin PySem.Builtin.Str PyProof.Rows
section
variable{prog:Program}{w:World}{A:Around}{E:Ω}{s:Shared}{x y:PySem.Str}{t u:Tok}{Q:Ω}
def split1(hy:(y.length==0)=false)(h:∀(l:List (PySem.Str×Tok)) k,l.map (·.1)=Txt.split x y->Q (.ref s⁻¹) {s with heap:=s.heap.push {cls:=.type "list",data:=.seq (strValues l).toArray},toks:=k})(hsz:x.length+2<=sizeLine):wpAny (model prog w) A (call (.builtin "str.split") [.str x t,.str y u]) Q E s:=by
 have a:(partsBetween x (occurrences x y 0 x.length (x.length+1)) y.length).length<=sizeLine:=by
  have e1:=StrLaws.occ_length_le x y 0 x.length (x.length+1);rw[length_partsBetween];omega
 cases h1:(decide (x.length<y.length)|| decide (strKind x<strKind y))
 ·cases hf:(occurrences x y 0 x.length (x.length+1)).isEmpty
  ·refine call_meets F.slot_str_split (typeIs_str _ _ _) F.entry_str_split (F.args_str_split_2 _ _) (meets_str_split_sep x y t u h1 hy hf ω a) ?_
   show wants Q E _ {s with toks:=_,heap:=s.heap.push {cls:=.type "list",data:=.seq (strsFrom s.toks (partsBetween x (occurrences x y 0 x.length (x.length+1)) y.length)).toArray}};rw[strsFrom_eq];exact h (numbered s.toks _) _ ((numbered_texts _ _).trans ((if_neg (ne_true_of_eq_false h1)).trans (if_neg (ne_true_of_eq_false hf))).symm)
  ·exact call_meets F.slot_str_split (typeIs_str _ _ _) F.entry_str_split (F.args_str_split_2 _ _) (meets_str_split_not_found x y t u h1 hy hf)
    (h [(x,t)] s.toks ((if_neg (ne_true_of_eq_false h1)).trans (if_pos hf)).symm)
 ·exact call_meets F.slot_str_split (typeIs_str _ _ _) F.entry_str_split (F.args_str_split_2 _ _) (meets_str_split_cannot_occur x y t u h1)
   (h [(x,t)] s.toks (if_pos h1).symm)
end
end Spl
namespace L2
open PySem PySem.Spec PyProof.Rows
section
variable{X:Cx}
def yH:∀(l:List (PySem.Str×Tok)),Vals ((l.map (·.1)).map V.str) (strValues l)
 |[]=>.nil
 |p::l=>.cons ⟨p.2,rfl⟩ (yH l)
def zlu:V->List V->Hp->VK->Prop:=fun x vs H Q=>∃z y,x=.str z/\vs=[.str y]/\(y.length==0)=false/\z.length+2<=sizeLine/\(Txt.split z y).length<=sizeLine/\∀D,H D=none->Q (.ref D) (upd H D (.lst ((Txt.split z y).map V.str)))
def E8:j6 X "str.split" zlu:=by
 intro aa s σ H x vs v us Q I a c h;obtain⟨z,y,rfl,rfl,hy,hz,d,q⟩:=h;obtain⟨t,rfl⟩:=a;obtain⟨u,rfl,f⟩:=c.one;obtain⟨t',rfl⟩:=f;refine Spl.split1 hy (fun l k e=>?_) hz;refine⟨.ref s⁻¹,_,I.laid (t':=k) (o:=.lst ((Txt.split z y).map V.str)) (fun b ob q=>Ad _ q) (Ah _) ?_,rfl,q _ (I.hok.fresh (Ah _))⟩;refine⟨by rw[Ab];exact d,strValues l,0,?_,Ar _ rfl⟩;rw[<-e];exact yH l
def oC(x:PySem.Str):It:=⟨fun i _=>i<x.cps.size,fun i H v H'=>H'=H/\∃c,x.cps[i]?=some c/\v=.str ⟨#[c]⟩,fun i _=>i=x.cps.size⟩
def yI{P:Program}{w:World}{K:Ae}{tg:Expr}(x:PySem.Str)(it:Addr)(T:String)(C:["enumerate","zip","dict_itemiterator","dict_reverseitemiterator","odict_iterator","itertools.zip_longest","itertools.pairwise"].contains T=false)(t:Tok)(W:∀A':Around,A'.handled=none->Walks P w A' it [it] [it] x.cps.size (SignAt x) (fun i h=>h.IsStrIter it T x t i))(D:∀(A:Around)(i:Nat)(s:Shared)(Q:Ω)(E:Ω),s.heap.IsStrIter it T x t i->Q (.ref it) s->wpAny (model P w) A (pyIter (.ref it)) Q E s):Turn P w K tg (oC x) [it] it (fun i h=>h.IsStrIter it T x t i) where
 mem:=by simp
 obj:=fun i h st b hb=>by
  have e:b=it:=by simpa using hb
  subst e;obtain⟨o,e,c,d⟩:=st;exact⟨o,e,fun v z=>by rw[d] at z;cases z⟩
 keep:=fun i h h' st k=>by
  obtain⟨o,e,c⟩:=st;exact⟨o,k it (by simp) o e,c⟩
 item:=by
  intro X a hw f hc i aa s σ H E I hf st g;subst a hw f;obtain⟨l,f1,f2,p,q,f5⟩:=hf it (by simp);refine(W X.A (I.ok.hd hc)).item i s _ _ g st fun v h' tk y r j=>?_;obtain⟨c,u,hx,rfl⟩:=y;have F:Inv X aa σ H {s with heap:=h',toks:=tk}:=I.turned (fun b o hb e=>j b o (by simpa using hb) e) l f1 p q f5;obtain⟨o,e1,e2,e3⟩:=id r;exact⟨_,rfl,nt (s:={s with heap:=h',toks:=tk}) e1 e2 e3 C ⟨.str ⟨#[c]⟩,H,F,⟨u,rfl⟩,⟨rfl,c,hx,rfl⟩,r,fun b hb=>(hf b hb).1⟩⟩
 done:=by
  intro X a hw f hc i aa s σ H E I hf st g;subst a hw f;obtain⟨l,f1,f2,p,q,f5⟩:=hf it (by simp);have hi:i=x.cps.size:=g;subst hi;exact(W X.A (I.ok.hd hc)).done s _ _ st fun h' tk j=>⟨rfl,I.turned (fun b o hb e=>j b o (by simpa using hb) e) l f1 p q f5⟩
 self:=D
def vi(te:TE):TI:=fun σ H R=>te σ H fun v H1=>∃x,v=.str x/\R (oC x) H1
def E9{tg l:Expr}{tl:TE}(g:PE X l tl):PI X tg l (vi tl):=by
 intro aa s σ H R I h;refine aJ (g aa s σ H _ I h) fun v a ⟨x,H1,I1,d,f⟩=>?_;obtain⟨z,e,q⟩:=f;subst e;obtain⟨t,rfl⟩:=d;have fin:∀(o:Obj),Inv X aa σ H1 {a with heap:=a.heap.push o}:=fun o=>I1.kept (t':=a.toks) fun b o e=>Ad _ e;have fp:∀b∈[a⁻¹],a' X aa H1 b:=fun b hb=>by
  have e:b=a⁻¹:=by simpa using hb
  subst e;exact I1.fpOk (Ah _) (I1.hok.fresh (Ah _))
 cases ha:z.cps.all (·<128)
 ·refine wpAny_pyIter_wide ha ?_
  exact⟨a⁻¹,[a⁻¹],_,_,H1,rfl,fin _,yI z _ "str_iterator" ξ t (fun j c=>Walks.strWide c _ z t) (fun A i s Q E st h=>wpAny_pyIter_striter_wide st h),⟨_,Ar _ rfl,rfl,rfl⟩,fp,q⟩
 ·refine wpAny_pyIter_ascii ha ?_
  exact⟨a⁻¹,[a⁻¹],_,_,H1,rfl,fin _,yI z _ "str_ascii_iterator" ξ t (fun j c=>Walks.strAscii c _ z t) (fun A i s Q E st h=>wpAny_pyIter_striter_ascii st h),⟨_,Ar _ rfl,rfl,rfl⟩,fp,q⟩
def E_{g:TG}{tc:TT}{te:TE}{σ:St}{H1:Hp}{Q:VK}{D:Addr}{x:PySem.Str}(a:Nat->St->List V->Hp->Prop)(h:a 0 σ [] (upd H1 D (.lst [])))(hs:∀i σ ys H c,x.cps[i]?=some c->i<x.cps.size->ys.length<=i->a i σ ys H->g (.str ⟨#[c]⟩) σ H fun d j=>tc d j fun b f=>if b=true then te d f (d_ x.cps.size a D i d) else cR x.cps.size a i d f)(hd:∀σ ys H,a x.cps.size σ ys H->Q (.ref D) H):bW (oC x) g tc te σ H1 D Q:=by
 refine lH x.cps.size a h (fun σ ys H p=>rfl) (fun i σ ys H hi p=>hi) (fun i σ ys H v H' hi hy p y=>?_) hd;obtain⟨e,c,hc,rfl⟩:=y;subst e;exact hs i σ ys _ c hc hi hy p
end
end L2
end
section
namespace K1
open STb
def subs(ps:List Int):Ξ:=ps.foldl (fun a x=>a++a.map (·++[x])) [[]]
def parts(ps:List Int):Ξ:=(subs ps).drop 1
def vj(ps:List Int)(x:Int):subs (ps++[x])=subs ps++(subs ps).map (·++[x]):=by unfold subs;rw[List.foldl_append];rfl
def oG(ps:List Int):(subs ps).length=2 ^ ps.length:=by
 have:∀(ps:List Int)(acc:Ξ),(ps.foldl (fun a x=>a++a.map (·++[x])) acc).length=acc.length*2 ^ ps.length:=by
  intro ps
  induction ps with
  |nil=>intro acc;simp
  |cons x ps ih=>
   intro acc;rw[List.foldl_cons,ih,AC,Ab,Aw,Nat.pow_succ];rw[<-Nat.two_mul,Nat.mul_comm 2,Nat.mul_assoc,Nat.mul_comm 2]
 simpa[subs] using this ps [[]]
def vl(ps:List Int):∃t,subs ps=[]::t/\∀q∈t,q≠[]:=by
 have:∀(ps:List Int)(acc:Ξ),(∃t,acc=[]::t/\∀q∈t,q≠[])->∃t,ps.foldl (fun a x=>a++a.map (·++[x])) acc=[]::t/\∀q∈t,q≠[]:=by
  intro ps
  induction ps with
  |nil=>intro acc h;exact h
  |cons x ps ih=>
   rintro acc ⟨t,rfl,h⟩;rw[List.foldl_cons];refine ih _ ⟨t++([]::t).map (·++[x]),rfl,fun q hq=>?_⟩;rcases List.mem_append.mp hq with hq|hq
   ·exact h q hq
   ·obtain⟨r,_,rfl⟩:=List.mem_map.mp hq
    simp
 exact this ps [[]] ⟨[],rfl,fun q hq=>nomatch hq⟩
def E'(ps:List Int):(subs ps).filter (fun q=>!decide (q=[]))=parts ps:=by
 obtain⟨t,e,h⟩:=vl ps;unfold parts;rw[e];show List.filter _ ([]::t)=t;rw[List.filter_cons,if_neg (by simp)];exact List.filter_eq_self.mpr fun q hq=>by simp[h q hq]
def kq(ps:List Int):(parts ps).length=2 ^ ps.length-1:=by unfold parts;rw[List.length_drop,oG]
def yJ(ps:List Int):∀q∈subs ps,q.length<=ps.length:=by
 have:∀(ps:List Int)(acc:Ξ)(n:Nat),(∀q∈acc,q.length<=n)->∀q∈ps.foldl (fun a x=>a++a.map (·++[x])) acc,q.length<=n+ps.length:=by
  intro ps
  induction ps with
  |nil=>intro acc n h q hq;simpa using h q hq
  |cons x ps ih=>
   intro acc n h q hq;rw[List.foldl_cons] at hq;have:=ih _ (n+1) (fun r hr=>by
    rcases List.mem_append.mp hr with hr|hr
    ·exact Nat.le_succ_of_le (h r hr)
    ·obtain⟨u,hu,rfl⟩:=List.mem_map.mp hr
     rw[AC];exact Nat.succ_le_succ (h u hu)) q hq
   rw[Aw];omega
 intro q hq;have:=this ps [[]] 0 (fun r hr=>by simp at hr;subst hr;exact Ah _) q hq;omega
def aO:List Int->Bool
 |a::b::r=>decide (a<b)&&aO (b::r)
 |_=>true
def yK:∀ps:List Int,((ps.zip (ps.drop 1)).map fun p=>decide (p.1<p.2)).all id=aO ps
 |[]=>rfl
 |[_]=>rfl
 |a::b::r=>by
  have:=yK (b::r);unfold aO;rw[<-this]
  rfl
def vm:∀ps:List Int,aO ps=true↔∀(i:Nat) a b,ps[i]?=some a->ps[i+1]?=some b->a<b
 |[]=>by simp[aO]
 |[x]=>by simp[aO]
 |x::y::r=>by
  unfold aO;rw[AN,decide_eq_true_eq,vm (y::r)];constructor
  ·rintro⟨h1,h2⟩ i a b c hb
   cases i with
   |zero=>simp at c hb;subst c hb;exact h1
   |succ i=>exact h2 i a b (by simpa using c) (by simpa using hb)
  ·intro h
   exact⟨h 0 x y rfl rfl,fun i a b c hb=>h (i+1) a b (by simpa using c) (by simpa using hb)⟩
def yL(ps:List Int)(h:aO ps=true):∀(d i:Nat) a b,ps[i]?=some a->ps[i+d]?=some b->a<=b:=by
 intro d
 induction d with
 |zero=>intro i a b c hb;rw[Nat.add_zero,c] at hb;cases hb;exact Bk _
 |succ d ih=>
  intro i a b c hb;have e:i+(d+1)<ps.length:=(List.getElem?_eq_some_iff.mp hb).1;have hc:ps[i+d]?=some ps[i+d]:=Af ω;have h1:=ih i a _ c hc;have h2:=(vm ps).mp h (i+d) _ b hc hb;omega
def zU(ps:List Int):Bool:=decide (1<=ps.length)&&decide (ps.length<=5)&&!(decide (ps.headD 0<0))&&!(decide (99<ps.getLastD 0))&&aO ps
def fj(ps:List Int):Bool:=decide (1<=ps.length)&&decide (ps.length<=5)&&ps.all (fun p=>decide (0<=p)&&decide (p<=99))&&aO ps
def yM(ps:List Int):zU ps=fj ps:=by
 unfold zU fj;cases ps with
 |nil=>rfl
 |cons x r=>
  by_cases hr:aO (x::r)=true
  ·rw[hr,Bool.and_true,Bool.and_true]
   by_cases c:(x::r).length<=5
   ·have e1:(x::r).getLastD 0=(x::r)[(x::r).length-1]:=by
     rw[List.getLastD_eq_getLast?,List.getLast?_eq_getElem?,Af (by simp)];rfl
    have key:(!(decide ((x::r).headD 0<0))&&!(decide (99<(x::r).getLastD 0)))=(x::r).all (fun p=>decide (0<=p)&&decide (p<=99)):=by
     rw[Bool.eq_iff_iff];rw[AN,Bool.not_eq_true',Bool.not_eq_true',decide_eq_false_iff_not,decide_eq_false_iff_not,List.all_eq_true];constructor
     ·rintro⟨a,b⟩ p hp
      obtain⟨i,hi⟩:=List.mem_iff_getElem?.mp hp;have d:i<(x::r).length:=(List.getElem?_eq_some_iff.mp hi).1;have g1:=yL (x::r) hr i 0 x p rfl (by simpa using hi);have g2:=yL (x::r) hr ((x::r).length-1-i) i p ((x::r)[(x::r).length-1]) hi (by
       rw[show i+((x::r).length-1-i)=(x::r).length-1 from ω];exact Af (by simp))
      rw[e1] at b;have e:¬x<0:=a;simp only[AN,decide_eq_true_eq];constructor<;>omega
     ·intro h
      have g1:=h x AB;have g2:=h ((x::r)[(x::r).length-1]) (A1 _);rw[e1];simp only[AN,decide_eq_true_eq] at g1 g2;constructor
      ·show ¬x<0;omega
      ·omega
    rw[<-key];simp only[Bool.and_assoc]
   ·rw[decide_eq_false c];simp
  ·have:aO (x::r)=false:=by simpa using hr
   rw[this,Bool.and_false,Bool.and_false]
def br(pss:Ξ):Bool:=decide (pss.length<=20)&&pss.all zU&&!(decide ((dd pss).length<pss.length))&&decide ((dd (pss.flatMap parts)).length<=200)
def yN(pss:Ξ)(k:Nat):Prop:=∀(i:Nat) ps,i<k->pss[i]?=some ps->ps∉pss.take i/\fj ps=true
def Fb(pss:Ξ)(h:pss.length<=20)(a:yN pss pss.length):br pss=decide ((dd (pss.flatMap parts)).length<=200):=by
 unfold br;have h1:pss.all zU=true:=List.all_eq_true.mpr fun ps hp=>by
  obtain⟨i,hi⟩:=List.mem_iff_getElem?.mp hp;rw[yM];exact(a i ps (List.getElem?_eq_some_iff.mp hi).1 hi).2
 have h2:¬(dd pss).length<pss.length:=fun z=>by
  obtain⟨k,x,e,hx⟩:=(E4 pss).mp z;exact(a k x (List.getElem?_eq_some_iff.mp e).1 e).1 hx
 rw[decide_eq_true h,h1,decide_eq_false h2]
 rfl
def Fc(pss:Ξ)(h:¬pss.length<=20):br pss=false:=by unfold br;rw[decide_eq_false h];rfl
end K1
end
section
namespace L2
open PySem PySem.Spec PyProof.Rows
def g_(N N':List Str)(az:List (Option Nat))(scope:Scope):Bool:=decide (az.length=N'.length)&&(az.zip N').all fun p=>match p.1 with
 |none=>true
 |some j=>decide (N[j]?=some p.2)&&decide (scope.names.lookup p.2=some .free)
def yO{N N':List Str}{az:List (Option Nat)}{scope:Scope}(h:g_ N N' az scope=true):nV N N' az scope:=by
 unfold g_ at h;rw[AN,decide_eq_true_eq,List.all_eq_true] at h;refine⟨h.1,fun i j e=>?_⟩;have hi:i<az.length:=(List.getElem?_eq_some_iff.mp e).1;have e2:N'[i]?=some N'[i]:=Af (by rw[<-h.1];exact hi);have:=h.2 (some j,N'[i]) (List.mem_iff_getElem?.mpr ⟨i,by rw[aF.aW,e,e2];rfl⟩);simp only[AN,decide_eq_true_eq] at this;exact⟨N'[i],e2,this.1,this.2⟩
section
variable{X:Cx}{scope:Scope}{az:List (Option Nat)}{tg iter cu:Expr}{bF:List Expr}{wi:TI}{g:TG}{tc:TT}{te:TE}{pos:Pos}
def zy(N N':List Str)(az:List (Option Nat))(hi:PI X tg iter wi)(b:∀a C s₀ H₀ ex,PG (cxC X scope N' a C s₀ H₀ ex) tg g)(c:∀a C s₀ H₀ ex,iK (cxC X scope N' a C s₀ H₀ ex) bF tc)(he:∀a C s₀ H₀ ex,PE (cxC X scope N' a C s₀ H₀ ex) cu te)(hc:X.calm=true:=by rfl)(hk:scope.kind=.function:=by rfl)(d:∀y∈scope.names,y.2≠.cell:=by decide +kernel)(e:∀y∈scope.names,y.2=.local->scope.names.lookup y.1=some .local:=by decide +kernel)(hfr:∀y∈scope.names,y.2=.free->X.env.kindOf y.1=some .cell\/X.env.kindOf y.1=some .free)(f:X.N=N:=by rfl)(h:g_ N N' az scope=true:=by decide +kernel)(hs:∀x,foldedSetIterable iter X.env x=pure x:=by intro _;rfl):PE X (.ListComp cu [⟨tg,iter,bF,0⟩] scope pos) (kd wi az g tc te):=
 Eb hc hk d e hfr (yO (by rw[f];exact h)) hi b c he hs
end
def cS{env:Env}{scope:Scope}(h:scope.names.all (fun y=>decide (y.2≠.free))=true):∀y∈scope.names,y.2=.free->env.kindOf y.1=some .cell\/env.kindOf y.1=some .free:=fun y hy e=>
 absurd e (of_decide_eq_true (List.all_eq_true.mp h y hy))
def b9{env:Env}{scope:Scope}(sc:Scope)(h:scope.names.all (fun y=>decide (y.2≠.free)|| decide (sc.names.lookup y.1=some .cell)|| decide (sc.names.lookup y.1=some .free))=true)(a:env.scope=sc:=by rfl):∀y∈scope.names,y.2=.free->env.kindOf y.1=some .cell\/env.kindOf y.1=some .free:=fun y hy e=>by
 subst a;have:=List.all_eq_true.mp h y hy;simp only[Bool.or_eq_true,decide_eq_true_eq] at this;rcases this with (q|q)|q
 ·exact absurd e q
 ·exact .inl q
 ·exact .inr q
def cK(l:List Str)(h:l.Nodup:=by decide +kernel):l.Nodup:=h
def lT{te:TE}{σ:St}{H:Hp}{P:VK}{S:Hp->Prop}(h:te σ H P):bq σ H fun b a=>if b=true then te σ a P else S a:=by
 show if true=true then te σ H P else S H;rw[if_pos rfl];exact h
def bH{i:Nat}{v:V}{te:TE}{σ:St}{H:Hp}{P:St->VK}{S:St->Hp->Prop}(h:te (σ.set i (some v)) H (P (σ.set i (some v)))):cg i v σ H fun a d=>bq a d fun b c=>if b=true then te a c (P a) else S a c:=lT (S:=S (σ.set i (some v))) h
def zF{J:It}{g:TG}{tc:TT}{te:TE}{σ:St}{H1:Hp}{Q:VK}{D:Addr}(h:bW J g tc te σ H1 D Q):bW J g tc te σ H1 D Q:=h
def Paired.of_at{c d:Type}{R:c->d->Prop}:∀{l:List c}{m:List d},l.length=m.length->(∀(i:Nat) x y,l[i]?=some x->m[i]?=some y->R x y)->Paired R l m
 |[],[],_,_=>.nil
 |x::l,y::m,h,f=>.cons (f 0 x y rfl rfl) (Paired.of_at (by simpa using h) fun i a b h1 h2=>f (i+1) a b (by simpa using h1) (by simpa using h2))
 |[],_::_,h,_=>by simp at h
 |_::_,[],h,_=>by simp at h
end L2
end
section
namespace HT
open PySem PyProof.Rows
section
variable{prog:Program}{w:World}{A:Around}{E:Ω}{s:Shared}
def Fd{t c:Addr}{a:Array Value}{d e:Value}{lo hi:Option Int}{Q:Ω}(b:IsTup s.heap t a)(hs:s.heap.IsSliceOf c d e .none)(l:IsPart d lo)(o:IsPart e hi)(hw:sIx a.size 0 lo=0/\sIx a.size a.size hi=a.size)(h:Q (.ref t) s):wpAny (model prog w) A (getItem (.ref t) (.ref c)) Q E s:=by
 obtain⟨os,f,g,p⟩:=id hs;have i:s.TypeIs (.ref c) "slice":=⟨os,f,g⟩;obtain⟨q,r,u,v,x⟩:=id b;unfold getItem
 try with_reducible refine AI ?_
 first|refine Aa (Ac ?_)|skip
 refine Aa (wpAny_sequenceKey b.typeIs ξ ?_);refine Aa (wpAny_callSpecial?_slot (name:=Str.ofString "__getitem__") b.typeIs PyProof.Rows.slot_tuple_getitem
  (A0 PyProof.Rows.slot_tuple_getitem b.typeIs entry_tuple_getitem ?_ (args_tuple_getitem _ _)))
 show wpAny _ _ (Builtin.Tuple.tupleItemsOf (.ref t) >>= _) _ _ s;refine Aa (tupleItemsOf_ b ?_);refine Aa (wpAny_typeOf i ?_);rw[if_pos ξ];refine Aa (xG hs l o ?_);have j:((((sIx a.size 0 lo:Nat):Int)==0&&(1:Int)==1&&(sIx a.size a.size hi-sIx a.size 0 lo)==a.size)=true):=by
  rw[hw.1,hw.2];simp
 show wpAny _ _ (if(((sIx a.size 0 lo:Nat):Int)==0&&(1:Int)==1&&(sIx a.size a.size hi-sIx a.size 0 lo)==a.size)=true then _ else _) _ _ s;rw[if_pos j];refine Aa ?_;unfold Builtin.Tuple.tupleIsExact;refine Aa (wpAny_typeOf b.typeIs (Ac ?_));rw[if_pos ξ];refine Aa (wpAny_rule ?_);exact Ac ⟨_,rfl,Ac h⟩
end
end HT
namespace L2
open PySem PySem.Spec PyProof.Rows
section
variable{X:Cx}
def jI:V->Option Int->Option Int->Hp->VK->Prop:=fun x lo hi H Q=>∃a xs,x=.ref a/\H a=some (.tup xs)/\∀p H',Same H H'->H' p=some (.tup (bx xs lo hi))->Q (.ref p) H'
def oI:nH X jI:=by
 intro aa s σ H x v g i lo hi j Q I c hs d e h;obtain⟨a,xs,rfl,hx,q⟩:=h
 by_cases hw:HT.sIx xs.length 0 lo=0/\HT.sIx xs.length xs.length hi=xs.length
 ·cases c
  obtain⟨l,r,f,hz⟩:=I.tuple (SqT.of (K:=X.K) hx);have b:l.toArray.size=xs.length:=by rw[Ai];exact r.length.symm
  refine⟨"tuple",_,PyProof.Rows.slot_tuple_getitem.lookup,f.typeIs,HT.Fd f hs d e (by rw[b];exact hw) ⟨.ref a,H,I,rfl,q a H (Same.refl H) ?_⟩⟩;rw[hx];unfold bx;rw[hw.1,hw.2,List.drop_zero,Nat.sub_zero,Ax (Ah _)]
 ·exact xI aa s σ H (.ref a) v g i lo hi j Q I c hs d e ⟨a,xs,rfl,SqT.of hx,hw,fun p hp=>q p _ (Same.new hp) za⟩
end
end L2
end
section
namespace K63
open K1
open PySem L2
def top(i:Nat):Stmt:=PySem.Challenge.pw_seamwright_k63_orders_by_worths.main.body.getD i (.Pass ⟨0,0,0,0⟩)
abbrev oK:Stmt:=top 11
abbrev kr:Stmt:=top 12
abbrev eI:Stmt:=top 14
abbrev lZ:Stmt:=top 15
abbrev sAll:Stmt:=top 16
abbrev oM:Stmt:=top 20
structure Bt(mg:Str->Option Value):Prop where
 len:mg "len"=none
 all:mg "all"=none
 zip:mg "zip"=none
 sorted:mg "sorted"=none
 set:mg "set"=none
 list:mg "list"=none
 tuple:mg "tuple"=none
 range:mg "range"=none
 enumerate:mg "enumerate"=none
 int:mg "int"=none
 isinstance:mg "isinstance"=none
 reversed:mg "reversed"=none
 bool:mg "bool"=none
def dh:A5 "len"=some (.builtin "len"):=δ
def oS:A5 "all"=some (.builtin "all"):=δ
def Fe:A5 "zip"=some (.type "zip"):=δ
def gj:A5 "sorted"=some (.builtin "sorted"):=δ
def l3:A5 "set"=some (.type "set"):=δ
def er:A5 "list"=some (.type "list"):=δ
def vq:A5 "tuple"=some (.type "tuple"):=δ
def Ff:A5 "int"=some (.type "int"):=δ
def zE:A5 "isinstance"=some (.builtin "isinstance"):=δ
def zf{n:Nat}(h:n<=100000):n<=sizeLine:=by rw[sizeLine_eq];omega
def jJ{n:Nat}(h:n<=100000):n<sizeLine:=by rw[sizeLine_eq];omega
def Fg(x:Int)(r:List Int):eC ((x::r).map V.int) (-1)=some (.int ((x::r).getLastD 0)):=by
 obtain⟨q,z,e⟩:∃q z,x::r=q++[z]:=⟨(x::r).dropLast,(x::r).getLast (List.cons_ne_nil x r),(List.dropLast_concat_getLast (List.cons_ne_nil x r)).symm⟩;rw[e,Av,List.getLastD_eq_getLast?,List.getLast?_append];exact Dr _ _
def kx{ps:List Int}{i:Nat}{x:V}(h:(ps.map V.int)[i]?=some x):∃p,ps[i]?=some p/\x=.int p:=by
 rw[Ak] at h;cases e:ps[i]? with
 |none=>rw[e] at h;cases h
 |some p=>rw[e] at h;exact⟨p,rfl,(Al h).symm⟩
def zV{as:List Addr}{i:Nat}{x:V}(h:(as.map V.ref)[i]?=some x):∃a,as[i]?=some a/\x=.ref a:=by
 rw[Ak] at h;cases e:as[i]? with
 |none=>rw[e] at h;cases h
 |some p=>rw[e] at h;exact⟨p,rfl,(Al h).symm⟩
def AX{a:Type}{l:List a}{i:Nat}{x:a}(h:l[i]?=some x):l.take (i+1)=l.take i++[x]:=by rw[List.take_add_one,h];rfl
def take_all{a:Type}(l:List a):l.take l.length=l:=Ax (Ah _)
def vr(x:Int)(r:List Int):bx ((x::r).map V.int) (some 1) none=r.map V.int:=by
 unfold bx;have e:HT.sIx ((x::r).map V.int).length 0 (some 1)=1:=by
  have:=HT.lh ((x::r).map V.int).length 0 1;rw[show((1:Nat):Int)=1 from rfl] at this;rw[this,Ab,Aw];omega
 rw[e,HT.nG];show List.take _ (r.map V.int)=_;rw[Ax (by simp)]
section
variable{P:Program}{w:World}{K:Ae}{mg:Str->Option Value}{base:Heap}
def yP:Sp:=fun vs H Q _=>∃a ps,vs=[.ref a]/\Tp H a ps/\∀H',Same H H'->Q (.bl (zU ps)) H'
def Fh:zw ["numbers"] ["numbers"] (ze oK):=⟨rfl,rfl,rfl,δ,rfl,δ,δ⟩
def Fj{f:Addr}{fd:FuncData}{W X:Tok}(F:Fun K "is_piece" "is_piece" oK f fd)(B:Bt mg)(Y:mg "MOST_POINTS"=some (.int 5 W))(lV:mg "LAST_POINT"=some (.int 99 X)):FnOk P w K mg base aC 1 f fd ["numbers"] yP:=by
 refine F.ok Fh (fun vs H Q E h=>?_) (fun aq A outer s H vs Q E hr h=>?_)
 ·obtain⟨a,ps,rfl,_⟩:=h;rfl
 ·obtain⟨a,ps,rfl,l,k⟩:=h
  refine⟨_,zb (zP (dY (Dd nF nF zg (zi zm rfl B.len dh (ac (pv 0) ai)) (jT rfl Y (v:=.int 5) ⟨_,rfl⟩))) (zd (zn zY)) zt)
   (zb (zP (PW.pt (gf (zk nD (bO j3 (pv 0) zg (fun _ _=>rfl)) zg (al _)) (f_ (zk lf (bO j3 (pv 0) (C8 C_ zg) (fun _ _=>rfl)) (jT rfl lV (v:=.int 99) ⟨_,rfl⟩) (al _))))) (zd (zn zY)) zt)
   (zd (zn (zi (nW rfl) rfl B.all oS (ac
    (zy ["numbers"] ["low","high"] [none,none] (Em rfl B.zip Fe (ac (pv 0) (ac (j1 xI (pv 0) (j0 zg) jZ) ai)))
     (fun J C s₀ H₀ ex=>CZ rfl (xg (zr (i:=0) (cK ["low","high"]) rfl (Or.inl rfl)) (xg (zr (i:=1) (cK ["low","high"]) rfl (Or.inl rfl)) CY)))
     (fun J C s₀ H₀ ex=>zS) (fun J C s₀ H₀ ex=>ro nD (pv 0) (pv 1) (al _)) (hfr:=cS δ) (g:=kX K 2 (q5 (cg 0) (q5 (cg 1) kU)))) ai))))),?_⟩
  have u:zU ps=false->Q (.bl false) H:=fun e=>by have:=k H (Same.refl H);rw[e] at this;exact this
  refine⟨_,rfl,a,_,rfl,.inr (SqT.of l),_,_,rfl,rfl,_,rfl,?_⟩;rw[Ab];refine bR (fun h1=>?_) (fun h1=>?_)
  ·refine⟨_,_,rfl,rfl,_,rfl,?_⟩
   have b:1<=ps.length:=by have:=of_decide_eq_true h1;omega
   cases h5:decide ((ps.length:Int)<=5) with
   |false=>
    have c:¬ps.length<=5:=by have:=of_decide_eq_false h5;omega
    exact aT (u (by unfold zU;rw[decide_eq_false c];simp))
   |true=>
    have c:ps.length<=5:=by have:=of_decide_eq_true h5;omega
    refine aB ?_;obtain⟨x,r,rfl⟩:∃x r,ps=x::r:=by
     cases ps with
     |nil=>simp at b
     |cons x r=>exact⟨x,r,rfl⟩
    refine⟨_,rfl,a,_,_,_,rfl,rfl,SqT.of l,ff (j:=0) rfl,_,_,rfl,rfl,_,rfl,?_⟩;refine bR (fun hx=>?_) (fun hx=>?_)
    ·refine aT (u ?_)
     unfold zU;rw[show decide ((x::r).headD 0<0)=true from hx];simp
    ·refine⟨_,rfl,_,rfl,a,_,_,_,rfl,rfl,SqT.of l,Fg x r,_,_,rfl,rfl,_,rfl,?_⟩
     cases hl:decide (99<(x::r).getLastD 0) with
     |true=>
      refine aT (u ?_);unfold zU;rw[hl];simp
     |false=>
      refine aB ?_;refine⟨_,rfl,_,rfl,_,rfl,a,_,rfl,SqT.of l,?_,fun p hp=>?_⟩
      ·intro z
       have e:=HT.lh ((x::r).map V.int).length 0 1;rw[show((1:Nat):Int)=1 from rfl,z.1,Ab,Aw] at e;omega
      ·rw[vr]
       have I:Same H (upd H p (.tup (r.map V.int))):=Same.new hp;refine⟨a,p,rfl,⟨_,SqT.of (I.tp l)⟩,⟨_,SqT.of za⟩,fun D L=>?_⟩;have hm:min ((x::r).map V.int).length (r.map V.int).length=r.length:=by simp
       refine zF (En (K:=K) (xs:=(x::r).map V.int) (ys:=r.map V.int) (fun i σ zs H3=>∃y G,σ=[y,G]/\Same (upd H p (.tup (r.map V.int))) H3/\H3 D=some (.lst zs)/\zs=((((x::r).zip r).map fun q=>decide (q.1<q.2)).take i).map V.bl)
        ⟨none,none,rfl,Same.new L,za,rfl⟩ (fun i σ zs H3 ⟨_,_,_,d,_⟩=>⟨SqT.of (d.tp (I.tp l)),SqT.of (d _ _ za)⟩) ?_ ?_)
       ·rintro i σ zs H3 O y1 y2 e1 e2 hi hz ⟨y,G,rfl,d,o,rfl⟩ M
        obtain⟨S,g1,rfl⟩:=kx e1;obtain⟨T,g2,rfl⟩:=kx e2;refine⟨O,_,rfl,SqT.of za,rfl,_,_,rfl,_,_,rfl,rfl,lT ?_⟩;refine⟨_,rfl,_,rfl,_,_,rfl,rfl,bb (AF (Nat.min_le_right _ _) (by rw[Ab];exact zf (by simp at c;omega))) hi hz (by rw[zh (zl o M)];exact o) ⟨_,_,rfl,?_,za,?_⟩⟩
        ·exact(d.then (d.free M)).then L
        ·have e3:(((x::r).zip r).map fun q=>decide (q.1<q.2))[i]?=some (decide (S<T)):=by
          rw[Ak,aF.aW,g1,g2];rfl
         rw[AX e3,Av];rfl
       ·rintro σ zs H3 ⟨y,G,rfl,d,o,rfl⟩
        refine⟨D,(((x::r).zip r).map fun q=>decide (q.1<q.2)),rfl,SqL.of ?_,?_⟩
        ·rw[o,hm,Ax (by simp)]
        ·have:=k H3 (I.trans d)
         have N:=yK (x::r);rw[show(x::r).drop 1=r from rfl] at N;rw[N];have U:zU (x::r)=aO (x::r):=by
          unfold zU;rw[decide_eq_true b,decide_eq_true c,hl];rw[show decide ((x::r).headD 0<0)=false from by simpa using hx]
          rfl
         rw[U] at this;exact this
  ·refine⟨_,rfl,aT (u ?_)⟩
   have b:¬1<=ps.length:=fun z=>h1 (decide_eq_true ω);unfold zU;rw[decide_eq_false b]
   rfl
end
end K63
end
section
namespace K63
open K1
open PySem L2
section
variable{P:Program}{w:World}{K:Ae}{mg:Str->Option Value}{base:Heap}
def oT:Sp:=fun vs H Q _=>∃a ps,vs=[.ref a]/\Tp H a ps/\ps.length<=5/\∀D as H',Same H H'->H D=none->H' D=some (.lst (as.map V.ref))->Tps H' as (parts ps)->Q (.ref D) H'
def oU:zw ["piece","found","point"] ["piece"] (ze kr):=⟨rfl,rfl,rfl,δ,rfl,δ,δ⟩
def eJ{n:Nat}(h:n<=5):2 ^ n<=32:=by
 have:2 ^ n<=2 ^ 5:=Nat.pow_le_pow_right ξ h;exact this
def yQ{H2:Hp}{as:List Addr}{fs:Ξ}{q:Int}{D:Addr}{l:Addr}{Q:VK}(F:H2 l=some (.lst (as.map V.ref)))(r:Tps H2 as fs)(hz:as.length<=100)(G:∀f∈fs,f.length<=100)(s:H2 D=none)(k:∀bs H3,Same H2 H3->H3 D=some (.lst (bs.map V.ref))->Tps H3 bs (fs.map (·++[q]))->Q (.ref D) H3):bW (di K l) (cg 0) bq (da tM (aw 0) (dk (ci (aw 1) bc))) [none,some (.int q)] H2 D Q:=by
 have C:=r.length;refine zI (xs:=as.map V.ref) (fun j σ ys H3=>∃bs v,σ=[v,some (.int q)]/\Same H2 H3/\H3 D=some (.lst ys)/\ys=bs.map V.ref/\Tps H3 bs ((fs.take j).map (·++[q]))) ?_ ?_ ?_ ?_
 ·exact⟨[],none,rfl,Same.new s,za,rfl,.nil⟩
 ·rintro j σ ys H3 ⟨bs,v,rfl,b,d,rfl,hb⟩
  exact SqL.of (b _ _ F)
 ·rintro j σ ys H3 x hx y hy ⟨bs,v,rfl,b,d,rfl,hb⟩
  obtain⟨a,A,rfl⟩:=zV hx;obtain⟨f,i,hf⟩:=r.get A;refine bH ?_;refine⟨_,rfl,_,rfl,zf (by simp),fun t u=>?_⟩;have E:=b.tp hf;have o:Same H3 (upd H3 t (.tup [.int q])):=Same.new u;refine⟨a,t,_,_,rfl,rfl,o _ _ E,za,?_,fun p h w hp=>?_⟩
  ·rw[Ab]
   exact zf (by have:=G f (An i);simp;omega)
  ·have g:Same H3 h:=o.trans w
   refine bb (ys:=bs.map V.ref) (by rw[Ab];exact zf ω) y hy (g _ _ d) ⟨bs++[p],_,rfl,(b.trans g).then s,za,by rw[Av];rfl,?_⟩;rw[AX i,Av];have H:p≠D:=e8 hp (g _ _ d) (by intro z;cases z);have keep:∀c xs,h c=some (.tup xs)->upd h D (.lst (bs.map V.ref++[V.ref p])) c=some (.tup xs):=fun c xs e=>by
    rw[zh (e8 e (g _ _ d) (by intro z;cases z))];exact e
   refine Tps.snoc (Paired.mapP (g.tps hb) fun c xs e=>keep c _ e) (keep p _ ?_);rw[hp,Av];rfl
 ·rintro σ ys H3 ⟨bs,v,rfl,b,d,rfl,hb⟩
  rw[Ab,C,take_all] at hb;exact k bs H3 b d hb
def Fl{f:Addr}{fd:FuncData}(F:Fun K "parts_of" "parts_of" kr f fd):FnOk P w K mg base aC 1 f fd ["piece"] oT:=by
 refine F.ok oU (fun vs H Q E h=>?_) (fun T A outer s H vs Q E hr h=>?_)
 ·obtain⟨a,ps,rfl,_⟩:=h;rfl
 ·obtain⟨a,ps,rfl,u,U,k⟩:=h
  refine⟨_,zb (zu (i:=1) oU.nd rfl (Or.inl rfl) (zJ (ac (fB ai) ai)))
   (zb (dF A8 rfl (k7 (pv 0)) (zr (i:=2) oU.nd rfl (Or.inr rfl))
    (zd (zu (i:=1) oU.nd rfl (Or.inl rfl) (zz j7 (pv 1) (zy ["piece","found","point"] ["part","point"] [none,some 2] (zA (pv 1)) (fun p C s₀ H₀ ex=>zr (i:=0) (cK ["part","point"]) rfl (Or.inl rfl)) (fun p C s₀ H₀ ex=>zS)
     (fun p C s₀ H₀ ex=>zz nY (pv 0) (fB (ac (pv 1) ai))) (hfr:=b9 (ze kr) δ))))))
   (zd (zn (j1 Dx (pv 1) (j0 zg) jZ)))),?_⟩
  refine⟨zf (by simp),fun e he=>⟨zf (by simp),fun l b=>?_⟩⟩;have y:Same H (upd (upd H e (.tup [])) l (.lst [.ref e])):=(Same.new he).then ((Same.new he).free b);have M:e≠l:=zl (H:=upd H e (.tup [])) za b;refine⟨_,rfl,a,rfl,⟨_,SqT.of (y _ _ u)⟩,xk (K:=K) (a:=a) (xs:=ps.map V.int) (fun i σ H2=>∃l as v,σ=[some (.ref a),some (.ref l),v]/\Same H H2/\H l=none/\H2 l=some (.lst (as.map V.ref))/\Tps H2 as (subs (ps.take i)))
   ⟨l,[e],none,rfl,y,(Same.new he).free b,za,.cons (by show upd _ _ _ e=_;rw[zh M];exact za) .nil⟩ (fun i σ H2 _ ⟨_,_,_,_,c,_⟩=>SqT.of (c _ _ u)) ?_ ?_⟩
  ·rintro i x σ H2 hx ⟨l,as,v,rfl,c,J,b,d⟩
   obtain⟨q,eq,rfl⟩:=kx hx;have hi:i<ps.length:=(List.getElem?_eq_some_iff.mp eq).1;have N:=d.length;have W:as.length<=32:=by
    rw[N,oG,AM];exact eJ ω
   have hm:∀f∈subs (ps.take i),f.length<=100:=fun f hf=>by
    have:=yJ _ f hf;rw[AM] at this;omega
   refine⟨_,rfl,_,rfl,l,rfl,⟨_,SqL.of b⟩,fun D j=>zF (yQ b d ω hm j fun bs H3 o I hb=>?_)⟩;have O:=hb.length;rw[Ab] at O;refine⟨l,D,_,_,rfl,rfl,o _ _ b,I,by rw[Ab,Ab];exact zf ω,fun r g=>?_⟩;have z:H r=none:=(c.trans o).free g;refine⟨r,as++bs,_,rfl,(c.trans o).then z,z,by rw[za,Av],?_⟩;rw[AX eq,vj];exact(Same.new g).tps ((o.tps d).append hb)
  ·rintro σ H2 ⟨l,as,v,rfl,c,J,b,d⟩
   rw[Ab,take_all] at d;refine⟨_,rfl,_,rfl,l,_,rfl,SqL.of b,fun D j=>?_⟩;have G:H D=none:=c.free j;obtain⟨t,L,_⟩:=vl ps;refine k D (as.drop 1) _ (c.then G) G ?_ ?_
   ·rw[za]
    unfold bx;have S:1<=as.length:=by rw[d.length,L];simp
    have e1:HT.sIx (as.map V.ref).length 0 (some 1)=1:=by
     have:=HT.lh (as.map V.ref).length 0 1;rw[show((1:Nat):Int)=1 from rfl] at this;rw[this,Ab];omega
    rw[e1,HT.nG,<-List.map_drop,Ax (by simp)]
   ·exact(Same.new j).tps (d.drop 1)
def Fm:zw ["piece"] ["piece"] (ze eI):=⟨rfl,rfl,rfl,δ,rfl,δ,δ⟩
def Fq{f:Addr}{fd:FuncData}(F:Fun K "order_key" "order_key" eI f fd)(B:Bt mg):FnOk P w K mg base aC 1 f fd ["piece"] n_:=by
 refine F.ok Fm (fun vs H Q E h=>?_) (fun c A outer s H vs Q E hr h=>?_)
 ·obtain⟨a,ps,rfl,_⟩:=h;rfl
 ·obtain⟨a,ps,rfl,b,k⟩:=h
  refine⟨_,zd (zn (fB (ac (zi zm rfl B.len dh (ac (pv 0) ai)) (ac (pv 0) ai)))),?_⟩;refine⟨_,rfl,a,_,rfl,.inr (SqT.of b),_,rfl,zf (by simp),fun p hp=>?_⟩;rw[Ab];exact k p hp
def yR(K:Ae):Sp:=fun vs H Q _=>∃l as pss,vs=[.ref l]/\SqL K H l (as.map V.ref)/\Tps H as pss/\pss.length<64/\
 ∀D H2(c:List (List Int×Addr)),Same H H2->H D=none->H2 D=some (.lst (c.map fun q=>V.ref q.2))->c.Perm (pss.zip as)->c.Pairwise (fun a b=>HT.lexLt ((b.1.length:Int)::b.1) ((a.1.length:Int)::a.1)=false)->Q (.ref D) H2
def Fs:zw ["some"] ["some"] (ze lZ):=⟨rfl,rfl,rfl,δ,rfl,δ,δ⟩
def Fu{f b:Addr}{fd c:FuncData}(F:Fun K "in_order" "in_order" lZ f fd)(B:Bt mg)(i:Fun K "order_key" "order_key" eI b c)(bk:Binds K c ["piece"] [])(mk:mg "order_key"=some (.ref b)):FnOk P w K mg base aC 4 f fd ["some"] (yR K):=by
 have g:FnOk P w K mg base aC 1 b c ["piece"] n_:=Fq i B;refine F.ok Fs (fun vs H Q E h=>?_) (fun j A outer s H vs Q E hr h=>?_)
 ·obtain⟨l,as,pss,rfl,_⟩:=h;rfl
 ·obtain⟨l,as,pss,rfl,d,e,a,k⟩:=h
  refine⟨_,zd (zn (EE g hr bk rfl B.sorted gj rfl mk (ac (pv 0) ai))),?_⟩;exact⟨_,rfl,l,as,pss,rfl,d,e,a,k⟩
end
end K63
end
section
namespace K63
open K1
open PySem L2 STb
def Tps.upd{H:Hp}{d:Addr}{o o':HO}{as:List Addr}{pss:Ξ}(h:Tps H as pss)(hd:H d=some o')(b:∀xs,o'≠.tup xs):Tps (L2.upd H d o) as pss:=
 Paired.mapP h fun a ps e=>by
  show L2.upd H d o a=_;rw[zh (e8 (show H a=some _ from e) hd fun z=>b _ z.symm)];exact e
def eN(seq:Ξ):List (List Key×V):=(dd seq).map fun ps=>((ps.map Sum.inl:List Key),V.bl true)
def yS(seq:Ξ):(eN seq).length<=seq.length:=by unfold eN;rw[Ab];exact gi seq
def yT(seq:Ξ)(ps:List Int):putK (eN seq) (ps.map Sum.inl) (.bl true)=eN (seq++[ps]):=by
 unfold putK eN;rw[g0];have a:(((dd seq).map fun ps=>((ps.map Sum.inl:List Key),V.bl true)).any fun kv=>decide (kv.1=ps.map Sum.inl))=decide (ps∈dd seq):=by
  rw[List.any_map]
  by_cases h:ps∈dd seq
  ·rw[decide_eq_true h,List.any_eq_true]
   exact⟨ps,h,by simp⟩
  ·rw[decide_eq_false h,List.any_eq_false]
   intro q hq;simp only[Function.comp,decide_eq_true_eq,tK];rintro rfl;exact h hq
 rw[a]
 by_cases h:ps∈dd seq
 ·rw[decide_eq_true h,if_pos rfl,if_pos h,Am]
  refine AO fun q hq=>?_;simp only[Function.comp];split<;>rfl
 ·rw[decide_eq_false h,if_neg (by simp),if_neg h,Av]
  rfl
def yU{H:Hp}{seq:Ξ}{bs:List Addr}(h:Paired (fun(p:List Key×V) b=>H b=some (.tup (p.1.map kV))) (eN seq) bs):Tps H bs (dd seq):=by
 unfold eN at h;generalize dd seq=l at h
 induction l generalizing bs with
 |nil=>cases h;exact .nil
 |cons x l ih=>
  rw[AE] at h;cases h with
  |cons r t=>
   refine .cons ?_ (ih t);show H _=_;rw[r,Am]
   rfl
def vt(pss:Ξ)(h:∀ps∈pss,ps.length<=5):(pss.flatMap parts).length<=31*pss.length:=by
 induction pss with
 |nil=>simp
 |cons x l ih=>
  rw[List.flatMap_cons,AC,kq,Aw];have:=ih fun ps hp=>h ps (Ay _ hp);have:=eJ (h x AB);omega
def yV{pss:Ξ}{i:Nat}{ps:List Int}(h:pss[i]?=some ps):(pss.take (i+1)).flatMap parts=(pss.take i).flatMap parts++parts ps:=by
 rw[AX h,List.flatMap_append];simp
def Told(H H2:Hp)(pss:Ξ)(D:Addr)(c:List (List Int×Addr)):Prop:=
 Same H H2/\H D=none/\H2 D=some (.lst (c.map fun q=>V.ref q.2))/\(∀q∈c,Tp H2 q.2 q.1)/\(c.map (·.1)).Perm (dd (pss.flatMap parts))/\c.Pairwise (fun a b=>HT.lexLt ((b.1.length:Int)::b.1) ((a.1.length:Int)::a.1)=false)
section
variable{P:Program}{w:World}{K:Ae}{mg:Str->Option Value}{base:Heap}
def l5(K:Ae):Sp:=fun vs H Q _=>∃l as pss,vs=[.ref l]/\SqL K H l (as.map V.ref)/\Tps H as pss/\(∀ps∈pss,ps.length<=5)/\pss.length<=20/\(dd (pss.flatMap parts)).length<64/\∀D H2 a,Told H H2 pss D a->Q (.ref D) H2
def oV:zw ["some","found","piece","part"] ["some"] (ze sAll):=⟨rfl,rfl,rfl,δ,rfl,δ,δ⟩
def yW{f fp fo fk:Addr}{fd N O d0:FuncData}(F:Fun K "all_parts" "all_parts" sAll f fd)(B:Bt mg)(Fp:Fun K "parts_of" "parts_of" kr fp N)(bp:Binds K N ["piece"] [])(mp:mg "parts_of"=some (.ref fp))(Fo:Fun K "in_order" "in_order" lZ fo O)(bo:Binds K O ["some"] [])(mo:mg "in_order"=some (.ref fo))(Fk:Fun K "order_key" "order_key" eI fk d0)(bk:Binds K d0 ["piece"] [])(mk:mg "order_key"=some (.ref fk)):FnOk P w K mg base aC 5 f fd ["some"] (l5 K):=by
 have Gp:FnOk P w K mg base aC 1 fp N ["piece"] oT:=Fl Fp;have Go:FnOk P w K mg base aC 4 fo O ["some"] (yR K):=Fu Fo B Fk bk mk;refine F.ok oV (fun vs H Q E h=>?_) (fun aq A outer s H vs Q E hr h=>?_)
 ·obtain⟨l,as,pss,rfl,_⟩:=h;rfl
 ·obtain⟨l,as,pss,rfl,U,W,X,fR,I,k⟩:=h
  have hu:=ey hr;have cr:Room 1 _:=hr.mono ξ;refine⟨_,zb (zu (i:=1) oV.nd rfl (Or.inl rfl) nQ)
   (zb (dF A8 rfl (zA (pv 0)) (zr (i:=2) oV.nd rfl (Or.inl rfl))
    (zd (dF A8 rfl (zA (zK Gp cr rfl mp Fp.kp bp .nil ao (ac (pv 2) ai))) (zr (i:=3) oV.nd rfl (Or.inl rfl))
     (zd (gh hu (pv 1) (pv 3) zY rfl)))))
   (zd (zn (zK Go hr rfl mo Fo.kp bo .nil ao (ac (zq (nX rfl) rfl B.list er (ac (pv 1) ai)) ai))))),?_⟩
  intro d hd;have aM:=W.length;refine⟨_,rfl,l,rfl,⟨_,(Same.new hd).seq U⟩,gO (K:=K) (a:=l) (xs:=as.map V.ref) (fun i σ H2=>∃v o,σ=[some (.ref l),some (.ref d),v,o]/\Same H H2/\H2 d=some (.dT (eN ((pss.take i).flatMap parts))))
   ⟨none,none,rfl,Same.new hd,za⟩ (fun i σ H2 _ ⟨_,_,_,e,_⟩=>e.seq U) ?_ ?_⟩
  ·rintro i x σ H2 hx ⟨v,o,rfl,e,y⟩
   obtain⟨a,ea,rfl⟩:=zV hx;obtain⟨ps,J,dM⟩:=W.get ea;have eU:=X ps (An J);have hi:i<pss.length:=(List.getElem?_eq_some_iff.mp J).1;refine⟨_,rfl,a,ps,rfl,e.tp dM,eU,fun D cs H3 r cm u S=>⟨D,rfl,⟨_,SqL.of u⟩,?_⟩⟩;have lS:=S.length;have nC:D≠d:=e8 u (r _ _ y) (by intro z;cases z);refine gO (K:=K) (a:=D) (xs:=cs.map V.ref) (fun j σ p=>∃o,σ=[some (.ref l),some (.ref d),some (.ref a),o]/\Same H p/\p D=some (.lst (cs.map V.ref))/\Tps p cs (parts ps)/\p d=some (.dT (eN ((pss.take i).flatMap parts++(parts ps).take j))))
    ⟨_,rfl,e.trans r,u,S,by rw[List.take_zero,List.append_nil];exact r _ _ y⟩ (fun j σ p _ ⟨_,_,_,q,_⟩=>SqL.of q) ?_ ?_
   ·rintro j x σ p hx ⟨o,rfl,L,Y,M,C⟩
    obtain⟨c,ec,rfl⟩:=zV hx;obtain⟨f,ef,hf⟩:=M.get ec;have G:(eN ((pss.take i).flatMap parts++(parts ps).take j)).length<sizeLine:=by
     refine jJ (AF (yS _) ?_);rw[AC];have h1:=vt (pss.take i) (fun q hq=>X q (List.mem_of_mem_take hq));have h2:=kq ps;have h3:=eJ eU;rw[AM] at h1 ⊢;omega
    refine⟨_,rfl,_,rfl,d,_,rfl,DPut.t (k:=f.map Sum.inl) C (by rw[Am];exact hf) G,⟨_,rfl,L.then hd,?_,?_,?_⟩⟩
    ·rw[zh nC];exact Y
    ·exact Tps.upd M C (by intro xs z;cases z)
    ·rw[za,yT,List.append_assoc,<-AX ef]
   ·rintro σ p ⟨o,rfl,L,Y,M,C⟩
    refine⟨_,_,rfl,L,?_⟩;rw[Ab,lS,take_all] at C;rw[yV J];exact C
  ·rintro σ H2 ⟨v,o,rfl,e,y⟩
   rw[Ab,aM,take_all] at y;refine⟨_,rfl,d,_,rfl,y,fun bs hb T g=>?_⟩;have tb:=yU hb;have jh:=tb.length;refine⟨T,bs,dd (pss.flatMap parts),rfl,SqL.of za,(Same.new g).tps tb,I,fun D H3 qs r u aj hp hs=>?_⟩;have iJ:H T=none:=e.free g;refine k D H3 qs ⟨(e.then iJ).trans r,(e.then iJ).free u,aj,fun q hq=>?_,?_,hs⟩
   ·obtain⟨m,em⟩:=List.mem_iff_getElem?.mp (hp.mem_iff.mp hq)
    rw[aF.aW] at em;cases e1:(dd (pss.flatMap parts))[m]? with
    |none=>rw[e1] at em;cases em
    |some f=>
     cases e2:bs[m]? with
     |none=>rw[e1,e2] at em;cases em
     |some b=>
      rw[e1,e2] at em;obtain rfl:(f,b)=q:=Al em;exact r.tp ((Same.new g).tp (jB tb m b f e2 e1))
   ·have:=hp.map (·.1)
    rw[List.map_fst_zip ω] at this;exact this
def yX(K:Ae):Sp:=fun vs H Q _=>∃l as pss,vs=[.ref l]/\SqL K H l (as.map V.ref)/\Tps H as pss/\(pss.all zU=true->(dd (pss.flatMap parts)).length<64)/\∀H',Same H H'->Q (.bl (br pss)) H'
def Fv:zw ["web"] ["web"] (ze oM):=⟨rfl,rfl,rfl,δ,rfl,δ,δ⟩
def Fx{f G fa fp fo U:Addr}{fd I J W X Y:FuncData}{t5 mF L mI:Tok}(F:Fun K "is_web" "is_web" oM f fd)(B:Bt mg)(m5:mg "MOST_POINTS"=some (.int 5 t5))(lV:mg "LAST_POINT"=some (.int 99 mF))(nj:mg "MOST_HANDED"=some (.int 20 L))(lY:mg "MOST_PIECES"=some (.int 200 mI))(Fi:Fun K "is_piece" "is_piece" oK G I)(bi:Binds K I ["numbers"] [])(mi:mg "is_piece"=some (.ref G))(Fa:Fun K "all_parts" "all_parts" sAll fa J)(ba:Binds K J ["some"] [])(ma:mg "all_parts"=some (.ref fa))(Fp:Fun K "parts_of" "parts_of" kr fp W)(bp:Binds K W ["piece"] [])(mp:mg "parts_of"=some (.ref fp))(Fo:Fun K "in_order" "in_order" lZ fo X)(bo:Binds K X ["some"] [])(mo:mg "in_order"=some (.ref fo))(Fk:Fun K "order_key" "order_key" eI U Y)(bk:Binds K Y ["piece"] [])(mk:mg "order_key"=some (.ref U)):FnOk P w K mg base aC 6 f fd ["web"] (yX K):=by
 have Gi:FnOk P w K mg base aC 1 G I ["numbers"] yP:=Fj Fi B m5 lV;have Ga:FnOk P w K mg base aC 5 fa J ["some"] (l5 K):=yW Fa B Fp bp mp Fo bo mo Fk bk mk;refine F.ok Fv (fun vs H Q E h=>?_) (fun aq A outer s H vs Q E hr h=>?_)
 ·obtain⟨l,as,pss,rfl,_⟩:=h;rfl
 ·obtain⟨l,as,pss,rfl,c,o,u,k⟩:=h
  have aE:=hr.units;have cr:Room 1 _:=hr.mono ξ;refine⟨_,zb (zP (zk lf (zi zm rfl B.len dh (ac (pv 0) ai)) (jT rfl nj (v:=.int 20) ⟨_,rfl⟩) (al _)) (zd (zn zY)) zt)
   (zb (zP (dY (et (zi (nW rfl) rfl B.all oS (ac
    (zy ["web"] ["numbers"] [none] (zA (pv 0)) (fun M C s₀ H₀ ex=>zr (i:=0) (cK ["numbers"]) rfl (Or.inl rfl)) (fun M C s₀ H₀ ex=>zS)
     (fun M C s₀ H₀ ex=>zK Gi cr rfl mi Fi.kp bi .nil ao (ac (pv 0) ai)) (hfr:=cS δ)) ai)))) (zd (zn zY)) zt)
   (zb (zP (zk nD (zi E7 rfl B.len dh (ac (zq (E6 rfl aE) rfl B.set l3 (ac (pv 0) ai)) ai)) (zi zm rfl B.len dh (ac (pv 0) ai)) (al _)) (zd (zn zY)) zt)
   (zd (zn (ro nF (zi zm rfl B.len dh (ac (zK Ga hr rfl ma Fa.kp ba .nil ao (ac (pv 0) ai)) ai)) (jT rfl lY (v:=.int 200) ⟨_,rfl⟩) (al _)))))),?_⟩
  have O:=o.length;refine⟨_,rfl,l,_,rfl,.inl c,_,_,rfl,rfl,_,rfl,?_⟩;rw[Ab];refine bR (fun h1=>?_) (fun h1=>?_)
  ·have:=k H (Same.refl H)
   rw[Fc pss (by have:=of_decide_eq_true h1;omega)] at this;exact this
  ·have T:pss.length<=20:=by
    have:¬((20:Int)<as.length):=fun z=>h1 (decide_eq_true z);omega
   refine⟨_,rfl,l,rfl,⟨_,c⟩,fun D N=>zF (zI (K:=K) (a:=l) (xs:=as.map V.ref) (fun i σ ys H3=>∃v,σ=[v]/\Same H H3/\H3 D=some (.lst ys)/\ys=((pss.map zU).take i).map V.bl)
    ⟨none,rfl,Same.new N,za,rfl⟩ (fun i σ ys H3 ⟨_,_,b,_⟩=>b.seq c) ?_ ?_)⟩
   ·rintro i σ ys H3 x hx hi hy ⟨v,rfl,b,p,rfl⟩
    obtain⟨a,ea,rfl⟩:=zV hx;obtain⟨ps,c8,r⟩:=o.get ea;refine bH ?_;refine⟨_,rfl,a,ps,rfl,b.tp r,fun H4 j=>bb (by rw[Ab];exact zf ω) hi hy (j _ _ p) ⟨_,rfl,(b.trans j).then N,za,?_⟩⟩;have e:(pss.map zU)[i]?=some (zU ps):=by rw[Ak,c8];rfl
    rw[AX e,Av];rfl
   ·rintro σ ys H3 ⟨v,rfl,b,p,rfl⟩
    rw[Ab,O,Ax (by simp)] at p;refine⟨D,pss.map zU,rfl,SqL.of p,_,rfl,?_⟩;have oJ:(pss.map zU).all id=pss.all zU:=by rw[List.all_map];rfl
    rw[oJ];cases hp:pss.all zU with
    |false=>
     refine aT ?_;have:=k H3 b;rw[show br pss=false from by unfold br;rw[hp];simp] at this;exact this
    |true=>
     refine aB ?_;refine⟨_,rfl,l,as,pss,rfl,b.seq c,b.tps o,ω,fun S hS=>?_⟩;have d:Same H (upd H3 S (fM S (dd pss).length)):=b.then (b.free hS);refine⟨S,_,rfl,za,_,rfl,l,_,rfl,.inl (d.seq c),_,_,rfl,rfl,_,rfl,?_⟩;rw[Ab,O];refine bR (fun h2=>?_) (fun h2=>?_)
     ·have y:(dd pss).length<pss.length:=by have:=of_decide_eq_true h2;omega
      have:=k _ d;rw[show br pss=false from by unfold br;rw[decide_eq_true y];simp] at this;exact this
     ·have y:¬(dd pss).length<pss.length:=fun z=>h2 (decide_eq_true ω)
      refine⟨_,rfl,l,as,pss,rfl,d.seq c,d.tps o,fun ps r=>?_,T,u hp,fun D2 H4 qs ⟨j,_,bC,_,cP,_⟩=>?_⟩
      ·have:=List.all_eq_true.mp hp ps r
       unfold zU at this;simp only[AN,decide_eq_true_eq] at this;exact this.1.1.1.2
      ·refine⟨D2,_,rfl,.inl (SqL.of bC),_,_,rfl,rfl,?_⟩
       have g:(qs.map fun q=>V.ref q.2).length=(dd (pss.flatMap parts)).length:=by
        rw[Ab,<-cP.length_eq,Ab]
       rw[g];have:=k H4 (d.trans j);have e:br pss=decide (((dd (pss.flatMap parts)).length:Int)<=200):=by
        unfold br;rw[hp,decide_eq_true T,decide_eq_false y]
        by_cases q:(dd (pss.flatMap parts)).length<=200
        ·rw[decide_eq_true q,decide_eq_true (show((dd (pss.flatMap parts)).length:Int)<=200 from ω)];rfl
        ·rw[decide_eq_false q,decide_eq_false (show ¬((dd (pss.flatMap parts)).length:Int)<=200 from ω)];rfl
       rw[e] at this;exact this
end
end K63
end
section
namespace L2
open PySem PySem.Spec PyProof.Rows
def Fy(i j:Int):Prop:=0<j/\j<1180591620717411303424
section
variable{X:Cx}
def vu:bw X (binaryOp .FloorDiv) (rI Fy fun i j=>.int (i / j)):=nw fun i j _ _ _ _ _ hc q=>by
 have h1:(0:Int)<j:=hc.1;have h2:j<1180591620717411303424:=hc.2;refine floordiv_int ω (by rw[Int.fdiv_eq_ediv_of_nonneg i ω];exact q) (.inl (PyProof.noPylong_of_log2 ?_));have a:j.natAbs≠0:=ω
 have b:j.natAbs.log2<70:=(Nat.log2_lt a).mpr ω;omega
end
end L2
end
section
namespace K63
open K1
open PySem L2 STb
abbrev vE:Stmt:=top 30
abbrev jM:Stmt:=top 31
abbrev l8:Stmt:=top 32
def yY(x y:Int):Prop:=0<=x/\(y=0\/(y=1/\x<4294967296))
def zD(H:Hp)(p:Addr):Prop:=∃x y,H p=some (.lst [.int x,.int y])/\yY x y
def zx(p:Addr)(H H':Hp):Prop:=∀b o,b≠p->H b=some o->H' b=some o
def zx.trans{p:Addr}{H H1 H2:Hp}(a:zx p H H1)(b:zx p H1 H2):zx p H H2:=fun c o hc e=>b c o hc (a c o hc e)
def zx.of{p:Addr}{H H1:Hp}(a:Same H H1):zx p H H1:=fun c o _ e=>a c o e
def zx.free{p:Addr}{H H':Hp}(e:zx p H H')(hb:zD H p)(a:zD H' p){l:Addr}(h:H' l=none):H l=none:=by
 cases q:H l with
 |none=>rfl
 |some o=>
  obtain⟨x,y,e1,_⟩:=a;have b:l≠p:=fun z=>by rw[z,e1] at h;cases h
  rw[e l o b q] at h;cases h
def zD.same{H H':Hp}{p:Addr}(b:zD H p)(e:Same H H'):zD H' p:=let ⟨x,y,h,o⟩:=b;⟨x,y,e _ _ h,o⟩
def zD.ne{H:Hp}{p l:Addr}{as:List Addr}(b:zD H p)(h:H l=some (.lst (as.map V.ref))):l≠p:=by
 obtain⟨x,y,e,_⟩:=b;refine e8 h e fun z=>?_;injection z with z
 cases as with
 |nil=>cases z
 |cons a r=>rw[AE] at z;cases z
def zD.net{H:Hp}{p t:Addr}{xs:List V}(b:zD H p)(h:H t=some (.tup xs)):t≠p:=by
 obtain⟨x,y,e,_⟩:=b;exact e8 h e (by intro z;cases z)
def zx.tp{p:Addr}{H H':Hp}{a:Addr}{ps:List Int}(e:zx p H H')(b:zD H p)(h:Tp H a ps):Tp H' a ps:=e _ _ (b.net h) h
def zx.tps{p:Addr}{H H':Hp}{as:List Addr}{pss:Ξ}(e:zx p H H')(b:zD H p)(h:Tps H as pss):Tps H' as pss:=Paired.mapP h fun _ _ q=>e.tp b q
def zx.then{p:Addr}{H H1:Hp}{a:Addr}{o:HO}(e:zx p H H1)(h:H a=none):zx p H (L2.upd H1 a o):=fun b u hb q=>by rw[zh (zl q h)];exact e b u hb q
def zD.upd{H:Hp}{p l:Addr}{o:HO}(b:zD H p)(h:l≠p):zD (L2.upd H l o) p:=let ⟨x,y,e,k⟩:=b;⟨x,y,by rw[zh h.symm];exact e,k⟩
def zD.new{H:Hp}{p l:Addr}{o:HO}(b:zD H p)(h:H l=none):zD (L2.upd H l o) p:=b.same (Same.new h)
section
variable{P:Program}{w:World}{K:Ae}{mg:Str->Option Value}{base:Heap}
def yZ(K:Ae):Sp:=fun vs H Q _=>∃(l:Addr)(ns:List Int),vs=[.ref l,.int 0]/\SqL K H l (ns.map V.int)/\∀n,Q (.int n) H
def Fz:zw ["script","k"] ["script","k"] (ze vE):=⟨rfl,rfl,rfl,δ,rfl,δ,δ⟩
def FB{f:Addr}{fd:FuncData}(F:Fun K "_law_cell_at" "_law_cell_at" vE f fd)(B:Bt mg):FnOk P w K mg base aC 1 f fd ["script","k"] (yZ K):=by
 refine F.ok Fz (fun vs H Q E h=>?_) (fun b A outer s H vs Q E hr h=>?_)
 ·obtain⟨l,ns,rfl,_⟩:=h;rfl
 ·obtain⟨l,ns,rfl,a,k⟩:=h
  refine⟨_,zb (zP (zk nD (pv 1) (zi zm rfl B.len dh (ac (pv 0) ai)) (al _)) (zd (zn (bO zG (pv 0) (pv 1) (fun _ _=>rfl)))) zt) (zd (zn zg)),?_⟩;refine⟨_,rfl,_,rfl,l,_,rfl,.inl a,_,_,rfl,rfl,_,rfl,?_⟩;refine bR (fun h1=>?_) (fun h1=>?_)
  ·cases ns with
   |nil=>have:=of_decide_eq_true h1;simp at this
   |cons n ns=>exact⟨_,rfl,_,rfl,l,_,_,_,rfl,rfl,a,ff (j:=0) rfl,k n⟩
  ·exact k 0
def y6:Sp:=fun vs H Q _=>∃n,vs=[.int n]/\∀p x y,H p=none->yY x y->Q (.ref p) (upd H p (.lst [.int x,.int y]))
def FC:zw ["cell"] ["cell"] (ze jM):=⟨rfl,rfl,rfl,δ,rfl,δ,δ⟩
def FE{f:Addr}{fd:FuncData}(F:Fun K "_law_box" "_law_box" jM f fd):FnOk P w K mg base aC 1 f fd ["cell"] y6:=by
 refine F.ok FC (fun vs H Q E h=>?_) (fun b A outer s H vs Q E hr h=>?_)
 ·obtain⟨n,rfl,_⟩:=h;rfl
 ·obtain⟨n,rfl,k⟩:=h
  refine⟨_,zb (zP (zk Db (pv 0) (zz jW zg zg) (al _)) (zd (zn (zJ (ac (zz jg (pv 0) (zz jW zg zg)) (ac zg ai))))) zt)
   (zd (zn (zJ (ac (zz jk (zz fe (zz jV (zz jk (pv 0) (zz jW zg zg)) zg) zg) zg) (ac zg ai))))),?_⟩
  have hc:la 10 18:=⟨ξ,ξ,ξ⟩;have a:(10:Int) ^ (18:Int).toNat=1000000000000000000:=ξ
  refine⟨_,rfl,_,_,rfl,rfl,hc,_,_,rfl,rfl,_,rfl,?_⟩;refine bR (fun h1=>?_) (fun h1=>?_)
  ·refine⟨_,rfl,_,_,rfl,rfl,hc,_,_,rfl,rfl,zf (by simp),fun p hp=>k p _ 0 hp ⟨?_,.inl rfl⟩⟩
   have:=of_decide_eq_true h1;omega
  ·refine⟨_,rfl,_,_,rfl,rfl,hc,_,_,rfl,rfl,(by show(0:Int)<10 ^ (18:Int).toNat;rw[a];decide),_,_,rfl,rfl,.inr ⟨ξ,ξ⟩,_,_,rfl,rfl,_,_,rfl,rfl,(by show(0:Int)<2147483629;decide),zf (by simp),fun p hp=>k p _ 1 hp ⟨?_,.inr ⟨rfl,?_⟩⟩⟩
   ·exact Int.emod_nonneg _ ξ
   ·have:=Int.emod_lt_of_pos (n%10 ^ (18:Int).toNat*69621+7001) (show(0:Int)<2147483629 from ξ)
    omega
def iS:Sp:=fun vs H Q _=>∃p m,vs=[.ref p,.int m]/\zD H p/\0<m/\m<1180591620717411303424/\∀r H',0<=r->r<m->zx p H H'->zD H' p->Q (.int r) H'
def vG:zw ["box","most","found","mixed"] ["box","most"] (ze l8):=⟨rfl,rfl,rfl,δ,rfl,δ,δ⟩
def vI{f:Addr}{fd:FuncData}(F:Fun K "_law_take" "_law_take" l8 f fd):FnOk P w K mg base aC 1 f fd ["box","most"] iS:=by
 refine F.ok vG (fun vs H Q E h=>?_) (fun J A outer s H vs Q E hr h=>?_)
 ·obtain⟨p,m,rfl,_⟩:=h;rfl
 ·obtain⟨p,m,rfl,⟨x,y,hp,d,g⟩,a,hm,k⟩:=h
  refine⟨_,zb (zP (zk c5 (bO zG (pv 0) zg (fun _ _=>rfl)) zg (al _))
    (zb (zu (i:=2) vG.nd rfl (Or.inl rfl) (zz jk (bO zG (pv 0) zg (fun _ _=>rfl)) (pv 1)))
    (zb (xi (zz vu (bO zG (pv 0) zg (fun _ _=>rfl)) (pv 1)) (xh (pv 0) zg set_list))
    (zd (zn (pv 2))))) zt)
   (zb (zu (i:=3) vG.nd rfl (Or.inl rfl) (zz jk (zz fe (zz fe (zz jV (bO zG (pv 0) zg (fun _ _=>rfl)) (bO zG (pv 0) zg (fun _ _=>rfl))) (zz jV zg (bO zG (pv 0) zg (fun _ _=>rfl)))) zg) zg))
   (zb (xi (zz jk (zz fe (zz fe (zz jV (pv 3) (pv 3)) (zz jV zg (pv 3))) zg) zg) (xh (pv 0) zg set_list))
   (zd (zn (zz jk (zz vu (bO zG (pv 0) zg (fun _ _=>rfl)) zg) (pv 1)))))),?_⟩
  have c:eC ([.int x,.int y]:List V) 0=some (.int x):=ff (j:=0) rfl;have D:eC ([.int x,.int y]:List V) 1=some (.int y):=ff (j:=1) rfl;refine⟨_,rfl,p,_,_,_,rfl,rfl,SqL.of hp,D,rfl,_,rfl,?_⟩;refine bR (fun h1=>?_) (fun h1=>?_)
  ·refine⟨_,rfl,p,_,_,_,rfl,rfl,SqL.of hp,c,_,rfl,_,_,rfl,rfl,a,?_⟩
   refine⟨_,rfl,p,_,_,_,rfl,rfl,SqL.of hp,c,_,rfl,_,_,rfl,rfl,⟨a,hm⟩,_,rfl,p,_,_,0,rfl,rfl,hp,rfl,?_⟩;refine⟨_,rfl,k (x%m) _ (Int.emod_nonneg _ ω) (Int.emod_lt_of_pos _ a) (fun b o hb e=>by rw[zh hb];exact e) ⟨x / m,y,za,Int.ediv_nonneg d ω,?_⟩⟩;rcases g with q|⟨q,hx⟩
   ·exact .inl q
   ·refine .inr ⟨q,Int.lt_of_le_of_lt (Int.ediv_le_self _ d) hx⟩
  ·have hy:y=1/\x<4294967296:=by
    rcases g with q|q
    ·exact absurd (by subst q;rfl) h1
    ·exact q
   obtain⟨rfl,hx⟩:=hy;have hb:CMul x x:=.inl ⟨ω,ω⟩;refine⟨_,rfl,p,_,_,_,rfl,rfl,SqL.of hp,c,_,rfl,p,_,_,_,rfl,rfl,SqL.of hp,c,_,_,rfl,rfl,hb,_,rfl,p,_,_,_,rfl,rfl,SqL.of hp,c,_,_,rfl,rfl,.inl ⟨ξ,ξ⟩,_,_,rfl,rfl,_,_,rfl,rfl,_,_,rfl,rfl,(by show(0:Int)<2147483647;decide),?_⟩;have G:=Int.emod_nonneg (x*x+39373*x+12345) (show(2147483647:Int)≠0 from ξ);have I:=Int.emod_lt_of_pos (x*x+39373*x+12345) (show(0:Int)<2147483647 from ξ);obtain⟨z,l⟩:∃z,z=(x*x+39373*x+12345)%2147483647:=⟨_,rfl⟩;rw[<-l] at G I;show kR _ _ _ ([some (.ref p),some (.int m),none,some (.int ((x*x+39373*x+12345)%2147483647))]:St) H;rw[<-l];refine⟨_,rfl,_,rfl,_,_,rfl,rfl,.inl ⟨ω,ω⟩,_,rfl,_,_,rfl,rfl,.inl ⟨ξ,ξ⟩,_,_,rfl,rfl,_,_,rfl,rfl,_,_,rfl,rfl,(by show(0:Int)<2147483587;decide),_,rfl,p,_,_,0,rfl,rfl,hp,rfl,?_⟩;have v:=Int.emod_nonneg (z*z+16807*z+7) (show(2147483587:Int)≠0 from ξ);have g1:=Int.emod_lt_of_pos (z*z+16807*z+7) (show(0:Int)<2147483587 from ξ);obtain⟨u,r⟩:∃u,u=(z*z+16807*z+7)%2147483587:=⟨_,rfl⟩;rw[<-r] at v g1;have C:upd H p (.lst [.int ((z*z+16807*z+7)%2147483587),.int 1]) p=some (.lst [.int u,.int 1]):=by rw[r];exact za
   refine⟨_,rfl,p,_,_,_,rfl,rfl,SqL.of C,ff (j:=0) rfl,_,_,rfl,rfl,⟨ξ,ξ⟩,_,rfl,_,_,rfl,rfl,a,?_⟩;exact k _ _ (Int.emod_nonneg _ ω) (Int.emod_lt_of_pos _ a) (fun b o hb e=>by rw[zh hb];exact e) ⟨u,1,C,v,.inr ⟨rfl,ω⟩⟩
end
end K63
end
section
namespace K63
open K1
open PySem L2 STb
abbrev l9:Stmt:=top 33
abbrev vN:Stmt:=top 34
section
variable{P:Program}{w:World}{K:Ae}{mg:Str->Option Value}{base:Heap}
def FF{H2:Hp}{as:List Addr}{fs:Ξ}{D l:Addr}{Q:VK}(E:H2 l=some (.lst (as.map V.ref)))(u:Tps H2 as fs)(hz:as.length<=100)(w:H2 D=none)(k:∀bs H3,Same H2 H3->H3 D=some (.lst (bs.map V.ref))->Tps H3 bs (fs.filter fun q=>!decide (q=[]))->Q (.ref D) H3):bW (di K l) (cg 0) (jr (da (gZ true K) (aw 0) (dk bc))) (aw 0) [none] H2 D Q:=by
 have C:=u.length;refine zI (xs:=as.map V.ref) (fun j σ ys H3=>∃bs v,σ=[v]/\Same H2 H3/\H3 D=some (.lst ys)/\ys=bs.map V.ref/\Tps H3 bs ((fs.take j).filter fun q=>!decide (q=[]))) ?_ ?_ ?_ ?_
 ·exact⟨[],none,rfl,Same.new w,za,rfl,.nil⟩
 ·rintro j σ ys H3 ⟨bs,v,rfl,d,g,rfl,hb⟩
  exact SqL.of (d _ _ E)
 ·rintro j σ ys H3 x hx i hy ⟨bs,v,rfl,d,g,rfl,hb⟩
  obtain⟨a,A,rfl⟩:=zV hx;obtain⟨f,p,hf⟩:=u.get A;refine⟨_,rfl,zf (by simp),fun t y=>?_⟩;have r:=d.tp hf;have b:Same H3 (upd H3 t (.tup [])):=Same.new y;refine .inl ⟨a,t,f,[],rfl,rfl,b.tp r,za,_,rfl,?_⟩;have s:=d.trans b;have keep:∀(o:HO) c xs,upd H3 t (.tup []) c=some (.tup xs)->upd (upd H3 t (.tup [])) D o c=some (.tup xs):=fun o c xs e=>by
   rw[zh (e8 e (b _ _ g) (by intro z;cases z))];exact e
  by_cases h:f=[]
  ·subst h
   refine aB (ez i hy ⟨bs,_,rfl,s,b _ _ g,rfl,?_⟩);rw[AX p,List.filter_append]
   simpa using b.tps hb
  ·rw[if_pos rfl,show(!decide (f=[]))=true by simp[h]]
   refine aT ⟨_,rfl,bb (ys:=bs.map V.ref) (by rw[Ab];exact zf ω) i hy (b _ _ g) ⟨bs++[a],_,rfl,s.then w,za,by rw[Av];rfl,?_⟩⟩;rw[AX p,List.filter_append,show [f].filter (fun q=>!decide (q=[]))=[f] by simp[h]];exact Tps.snoc (Paired.mapP (b.tps hb) fun c xs e=>keep _ c _ e) (keep _ a _ (b.tp r))
 ·rintro σ ys H3 ⟨bs,v,rfl,d,g,rfl,hb⟩
  rw[Ab,C,take_all] at hb;exact k bs H3 d g hb
def o0:zw ["piece","found","point"] ["piece"] (ze l9):=⟨rfl,rfl,rfl,δ,rfl,δ,δ⟩
def FG{f:Addr}{fd:FuncData}(F:Fun K "_law_parts" "_law_parts" l9 f fd):FnOk P w K mg base aC 1 f fd ["piece"] oT:=by
 refine F.ok o0 (fun vs H Q E h=>?_) (fun S A outer s H vs Q E hr h=>?_)
 ·obtain⟨a,ps,rfl,_⟩:=h;rfl
 ·obtain⟨a,ps,rfl,z,J,k⟩:=h
  have M:=hr.units;refine⟨_,zb (zu (i:=1) o0.nd rfl (Or.inl rfl) (zJ (ac (fB ai) ai)))
   (zb (dF A8 rfl (k7 (pv 0)) (zr (i:=2) o0.nd rfl (Or.inr rfl))
    (zd (zu (i:=1) o0.nd rfl (Or.inl rfl) (zz j7 (pv 1) (zy ["piece","found","point"] ["part","point"] [none,some 2] (zA (pv 1)) (fun j C s₀ H₀ ex=>zr (i:=0) (cK ["part","point"]) rfl (Or.inl rfl)) (fun j C s₀ H₀ ex=>zS)
     (fun j C s₀ H₀ ex=>zz nY (pv 0) (fB (ac (pv 1) ai))) (hfr:=b9 (ze l9) δ))))))
   (zd (zn (zy ["piece","found","point"] ["part"] [none] (zA (pv 1)) (fun j C s₀ H₀ ex=>zr (i:=0) (cK ["part"]) rfl (Or.inl rfl)) (fun j C s₀ H₀ ex=>lC (zk (n7 M) (pv 0) (fB ai) (al _)))
     (fun j C s₀ H₀ ex=>pv 0) (hfr:=cS δ) (tc:=jr (da (gZ true K) (aw 0) (dk bc))))))),?_⟩
  refine⟨zf (by simp),fun e he=>⟨zf (by simp),fun l b=>?_⟩⟩;have G:Same H (upd (upd H e (.tup [])) l (.lst [.ref e])):=(Same.new he).then ((Same.new he).free b);have N:e≠l:=zl (H:=upd H e (.tup [])) za b;refine⟨_,rfl,a,rfl,⟨_,SqT.of (G _ _ z)⟩,xk (K:=K) (a:=a) (xs:=ps.map V.int) (fun i σ H2=>∃l as v,σ=[some (.ref a),some (.ref l),v]/\Same H H2/\H l=none/\H2 l=some (.lst (as.map V.ref))/\Tps H2 as (subs (ps.take i)))
   ⟨l,[e],none,rfl,G,(Same.new he).free b,za,.cons (by show upd _ _ _ e=_;rw[zh N];exact za) .nil⟩ (fun i σ H2 _ ⟨_,_,_,_,c,_⟩=>SqT.of (c _ _ z)) ?_ ?_⟩
  ·rintro i x σ H2 hx ⟨l,as,v,rfl,c,L,b,d⟩
   obtain⟨q,eq,rfl⟩:=kx hx;have hi:i<ps.length:=(List.getElem?_eq_some_iff.mp eq).1;have u:=d.length;have T:as.length<=32:=by
    rw[u,oG,AM];exact eJ ω
   have hm:∀f∈subs (ps.take i),f.length<=100:=fun f hf=>by
    have:=yJ _ f hf;rw[AM] at this;omega
   refine⟨_,rfl,_,rfl,l,rfl,⟨_,SqL.of b⟩,fun D p=>zF (yQ b d ω hm p fun bs H3 g r hb=>?_)⟩;have O:=hb.length;rw[Ab] at O;refine⟨l,D,_,_,rfl,rfl,g _ _ b,r,by rw[Ab,Ab];exact zf ω,fun y o=>?_⟩;have I:H y=none:=(c.trans g).free o;refine⟨y,as++bs,_,rfl,(c.trans g).then I,I,by rw[za,Av],?_⟩;rw[AX eq,vj];exact(Same.new o).tps ((g.tps d).append hb)
  ·rintro σ H2 ⟨l,as,v,rfl,c,L,b,d⟩
   rw[Ab,take_all] at d;have u:=d.length;refine⟨_,rfl,l,rfl,⟨_,SqL.of b⟩,fun D p=>zF (FF b d (by rw[u,oG];have:=eJ J;omega) p fun bs H3 g r hb=>?_)⟩;rw[E'] at hb;exact k D bs H3 (c.trans g) (c.free p) r hb
def FH{H2:Hp}{bs:List Addr}{fs:Ξ}{D l:Addr}{Q:VK}(F:H2 l=some (.lst (bs.map V.ref)))(s:Tps H2 bs fs)(hz:bs.length<=1000)(u:H2 D=none)(k:∀(cs:List Addr) H3,Same H2 H3->H3 D=some (.lst (cs.map V.ref))->cs.length=bs.length->(∀(i:Nat) c,cs[i]?=some c->∃b f,bs[i]?=some b/\fs[i]?=some f/\H3 c=some (.tup [.int f.length,.ref b]))->Q (.ref D) H3):bW (di K l) (cg 0) bq (dk (ci (gQ (fun xs H Q=>∃p ys,xs=[V.ref p]/\(SqL K H p ys\/SqT K H p ys)/\Q (.int ys.length) H) (ci (aw 0) bc)) (ci (aw 0) bc))) [none] H2 D Q:=by
 have G:=s.length;refine zI (xs:=bs.map V.ref) (fun j σ ys H3=>∃(cs:List Addr)(v:Option V),σ=[v]/\Same H2 H3/\H3 D=some (.lst ys)/\ys=cs.map V.ref/\cs.length=j/\∀(i:Nat) c,cs[i]?=some c->∃b f,bs[i]?=some b/\fs[i]?=some f/\H3 c=some (.tup [.int f.length,.ref b])) ?_ ?_ ?_ ?_
 ·exact⟨[],none,rfl,Same.new u,za,rfl,rfl,fun i c e=>by simp at e⟩
 ·rintro j σ ys H3 ⟨cs,v,rfl,d,g,rfl,q,hc⟩
  exact SqL.of (d _ _ F)
 ·rintro j σ ys H3 x hx q hy ⟨cs,v,rfl,d,g,rfl,a,hc⟩
  obtain⟨b,r,rfl⟩:=zV hx;obtain⟨f,y,hf⟩:=s.get r;refine bH ?_;refine⟨_,rfl,b,_,rfl,.inr (SqT.of (d.tp hf)),_,rfl,zf (by simp),fun t w=>?_⟩;rw[show(f.map V.int).length=f.length from Ab _];have h:Same H3 (upd H3 t (.tup [.int f.length,.ref b])):=Same.new w;have keep:∀(o:HO) c xs,upd H3 t (.tup [.int f.length,.ref b]) c=some (.tup xs)->upd (upd H3 t (.tup [.int f.length,.ref b])) D o c=some (.tup xs):=fun o c xs e=>by
   rw[zh (e8 e (h _ _ g) (by intro z;cases z))];exact e
  refine bb (ys:=cs.map V.ref) (by rw[Ab];exact zf ω) q hy (h _ _ g) ⟨cs++[t],_,rfl,(d.trans h).then u,za,by rw[Av];rfl,by rw[AC,a];rfl,fun i c e=>?_⟩
  by_cases hi:i<cs.length
  ·rw[List.getElem?_append_left hi] at e
   obtain⟨A,C,e1,e2,e3⟩:=hc i c e;exact⟨A,C,e1,e2,keep _ c _ (h _ _ e3)⟩
  ·rw[List.getElem?_append_right ω] at e
   have E:i-cs.length=0:=by
    rcases Nat.eq_zero_or_pos (i-cs.length) with z|z
    ·exact z
    ·rw[List.getElem?_eq_none (by simp only[Aw,List.length_nil];omega)] at e;cases e
   rw[E] at e;obtain rfl:t=c:=by simpa using e
   have:i=j:=ω
   subst this;exact⟨b,f,r,y,keep _ t _ za⟩
 ·rintro σ ys H3 ⟨cs,v,rfl,d,g,rfl,a,hc⟩
  rw[Ab] at a;exact k cs H3 d g a hc
def iT(H:Hp)(c:Addr):Addr:=match H c with
 |some (.tup [_,.ref b])=>b
 |_=>0
def FI{H2:Hp}{cs:List Addr}{D l:Addr}{Q:VK}(i:H2 l=some (.lst (cs.map V.ref)))(o:∀c∈cs,∃n b,H2 c=some (.tup [.int n,.ref b]))(hz:cs.length<=1000)(g:H2 D=none)(k:∀H3,Same H2 H3->H3 D=some (.lst (cs.map fun c=>V.ref (iT H2 c)))->Q (.ref D) H3):bW (di K l) (cg 0) bq (da (eE K) (aw 0) (tC (.int 1))) [none] H2 D Q:=by
 refine zI (xs:=cs.map V.ref) (fun j σ ys H3=>∃v,σ=[v]/\Same H2 H3/\H3 D=some (.lst ys)/\ys=(cs.take j).map fun c=>V.ref (iT H2 c)) ?_ ?_ ?_ ?_
 ·exact⟨none,rfl,Same.new g,za,rfl⟩
 ·rintro j σ ys H3 ⟨v,rfl,a,d,rfl⟩
  exact SqL.of (a _ _ i)
 ·rintro j σ ys H3 x hx h hy ⟨v,rfl,a,d,rfl⟩
  obtain⟨c,f,rfl⟩:=zV hx;obtain⟨n,b,e⟩:=o c (An f);refine bH ?_;refine⟨_,rfl,c,_,_,_,rfl,rfl,SqT.of (a _ _ e),ff (j:=1) rfl,bb (by rw[Ab];exact zf ω) h hy d ⟨_,rfl,a.then g,za,?_⟩⟩;rw[AX f,Av];have:iT H2 c=b:=by unfold iT;rw[e]
  rw[<-this];rfl
 ·rintro σ ys H3 ⟨v,rfl,a,d,rfl⟩
  rw[Ab,take_all] at d;exact k H3 a d
def l_:zw ["web","found","piece","part","ranked"] ["web"] (ze vN):=⟨rfl,rfl,rfl,δ,rfl,δ,δ⟩
def FJ{f fp:Addr}{fd dg:FuncData}(F:Fun K "_law_pieces" "_law_pieces" vN f fd)(B:Bt mg)(Fp:Fun K "_law_parts" "_law_parts" l9 fp dg)(bp:Binds K dg ["piece"] [])(mp:mg "_law_parts"=some (.ref fp)):FnOk P w K mg base aC 2 f fd ["web"] (l5 K):=by
 have Gp:FnOk P w K mg base aC 1 fp dg ["piece"] oT:=FG Fp;refine F.ok l_ (fun vs H Q E h=>?_) (fun aq A outer s H vs Q E hr h=>?_)
 ·obtain⟨l,as,pss,rfl,_⟩:=h;rfl
 ·obtain⟨l,as,pss,rfl,hl,ht,h5,fR,h64,k⟩:=h
  have hu:=ey hr;have aE:=hr.units;refine⟨_,zb (zu (i:=1) l_.nd rfl (Or.inl rfl) nQ)
   (zb (dF A8 rfl (zA (pv 0)) (zr (i:=2) l_.nd rfl (Or.inl rfl))
    (zd (dF A8 rfl (zA (zK Gp hr rfl mp Fp.kp bp .nil ao (ac (pv 2) ai))) (zr (i:=3) l_.nd rfl (Or.inl rfl))
     (zd (gh hu (pv 1) (pv 3) zY rfl)))))
   (zb (zu (i:=4) l_.nd rfl (Or.inl rfl) (zi (EA aE) rfl B.sorted gj (ac
    (zy ["web","found","piece","part","ranked"] ["piece"] [none] (zA (zq (nX rfl) rfl B.list er (ac (pv 1) ai))) (fun J C s₀ H₀ ex=>zr (i:=0) (cK ["piece"]) rfl (Or.inl rfl)) (fun J C s₀ H₀ ex=>zS)
     (fun J C s₀ H₀ ex=>fB (ac (zi zm rfl B.len dh (ac (pv 0) ai)) (ac (pv 0) ai))) (hfr:=cS δ) (te:=dk (ci (gQ (fun xs H Q=>∃p ys,xs=[V.ref p]/\(SqL K H p ys\/SqT K H p ys)/\Q (.int ys.length) H) (ci (aw 0) bc)) (ci (aw 0) bc)))) ai)))
   (zd (zn (zy ["web","found","piece","part","ranked"] ["one"] [none] (zA (pv 4)) (fun J C s₀ H₀ ex=>zr (i:=0) (cK ["one"]) rfl (Or.inl rfl)) (fun J C s₀ H₀ ex=>zS)
     (fun J C s₀ H₀ ex=>bO j3 (pv 0) zg (fun _ _=>rfl)) (hfr:=cS δ) (te:=da (eE K) (aw 0) (tC (.int 1)))))))),?_⟩
  intro d hd;have aM:=ht.length;refine⟨_,rfl,l,rfl,⟨_,(Same.new hd).seq hl⟩,gO (K:=K) (a:=l) (xs:=as.map V.ref) (fun i σ H2=>∃v G u,σ=[some (.ref l),some (.ref d),v,G,u]/\Same H H2/\H2 d=some (.dT (eN ((pss.take i).flatMap parts))))
   ⟨none,none,none,rfl,Same.new hd,za⟩ (fun i σ H2 _ ⟨_,_,_,_,o,_⟩=>o.seq hl) ?_ ?_⟩
  ·rintro i x σ H2 hx ⟨v,G,u,rfl,o,M⟩
   obtain⟨a,ea,rfl⟩:=zV hx;obtain⟨ps,c8,dM⟩:=ht.get ea;have eU:=h5 ps (An c8);have hi:i<pss.length:=(List.getElem?_eq_some_iff.mp c8).1;refine⟨_,rfl,a,ps,rfl,o.tp dM,eU,fun D cs H3 r cm L fZ=>⟨D,rfl,⟨_,SqL.of L⟩,?_⟩⟩;have lS:=fZ.length;have nC:D≠d:=e8 L (r _ _ M) (by intro z;cases z);refine gO (K:=K) (a:=D) (xs:=cs.map V.ref) (fun j σ I=>∃G,σ=[some (.ref l),some (.ref d),some (.ref a),G,u]/\Same H I/\I D=some (.lst (cs.map V.ref))/\Tps I cs (parts ps)/\I d=some (.dT (eN ((pss.take i).flatMap parts++(parts ps).take j))))
    ⟨_,rfl,o.trans r,L,fZ,by rw[List.take_zero,List.append_nil];exact r _ _ M⟩ (fun j σ I _ ⟨_,_,_,q,_⟩=>SqL.of q) ?_ ?_
   ·rintro j x σ I hx ⟨G,rfl,cD,bC,cV,N⟩
    obtain⟨c,ec,rfl⟩:=zV hx;obtain⟨f,ef,hf⟩:=cV.get ec;have O:(eN ((pss.take i).flatMap parts++(parts ps).take j)).length<sizeLine:=by
     refine jJ (AF (yS _) ?_);rw[AC];have h1:=vt (pss.take i) (fun q hq=>h5 q (List.mem_of_mem_take hq));have h2:=kq ps;have Y:=eJ eU;rw[AM] at h1 ⊢;omega
    refine⟨_,rfl,_,rfl,d,_,rfl,DPut.t (k:=f.map Sum.inl) N (by rw[Am];exact hf) O,⟨_,rfl,cD.then hd,?_,?_,?_⟩⟩
    ·rw[zh nC];exact bC
    ·exact Tps.upd cV N (by intro xs z;cases z)
    ·rw[za,yT,List.append_assoc,<-AX ef]
   ·rintro σ I ⟨G,rfl,cD,bC,cV,N⟩
    refine⟨_,_,_,rfl,cD,?_⟩;rw[Ab,lS,take_all] at N;rw[yV c8];exact N
  ·rintro σ H2 ⟨v,G,u,rfl,o,M⟩
   rw[Ab,aM,take_all] at M;refine⟨_,rfl,d,_,rfl,M,fun bs hb l2 W=>?_⟩;have tb:=yU hb;have jh:=tb.length;have ip:(dd (pss.flatMap parts)).length<=620:=by
    have h1:=gi (pss.flatMap parts);have h2:=vt pss h5;omega
   have U:Same H2 (upd H2 l2 (.lst (bs.map V.ref))):=Same.new W;refine⟨l2,rfl,⟨_,SqL.of za⟩,fun D L=>zF (FH (K:=K) za (U.tps tb) ω L fun cs H3 r aj hcl hc=>?_)⟩;have kP:=r.tps (U.tps tb);refine⟨D,cs,(dd (pss.flatMap parts)).map fun f=>((f.length:Int)::f),rfl,SqL.of aj,?_,(by rw[Ab];exact h64),fun R g hp hs hR=>?_⟩
   ·refine Paired.of_at (by rw[Ab];omega) fun i c y e1 e2=>?_
    obtain⟨b,f,g1,g2,g3⟩:=hc i c e1;rw[Ak,g2] at e2;obtain rfl:=Al e2;exact⟨_,b,f,rfl,g3,jB kP i b f g1 g2⟩
   ·have S:Same H3 (upd H3 R (.lst (g.map fun q=>V.ref q.2))):=Same.new hR
    have hq:∀q∈g,∃b f,q.1=((f:List Int).length:Int)::f/\H3 q.2=some (.tup [.int f.length,.ref b])/\Tp H3 b f:=fun q hq=>by
     obtain⟨m,em⟩:=List.mem_iff_getElem?.mp (hp.mem_iff.mp hq);rw[aF.aW,Ak] at em;cases e2:cs[m]? with
     |none=>rw[e2] at em;cases h:(dd (pss.flatMap parts))[m]?<;>rw[h] at em<;>cases em
     |some c=>
      obtain⟨b,f,g1,g2,g3⟩:=hc m c e2;rw[g2,e2] at em;obtain rfl:(((f.length:Int)::f),c)=q:=Al em;exact⟨b,f,rfl,g3,jB kP m b f g1 g2⟩
    have hql:g.length<=620:=by rw[hp.length_eq,List.length_zip,Ab];omega
    refine⟨_,rfl,R,rfl,⟨_,SqL.of za⟩,fun D2 bJ=>zF (FI (K:=K) (cs:=g.map (·.2)) (by rw[za,Am];rfl) (fun c vB=>?_) (by rw[Ab];omega) bJ fun H5 fT dX=>?_)⟩
    ·obtain⟨q,X,rfl⟩:=List.mem_map.mp vB
     obtain⟨b,f,_,g2,_⟩:=hq q X;exact⟨_,b,S _ _ g2⟩
    ·have sAll:Same H H5:=((o.trans U).trans r).trans (S.trans fT)
     have snd:∀q∈g,∀b f,H3 q.2=some (.tup [.int (f:List Int).length,.ref b])->iT (upd H3 R (.lst (g.map fun q=>V.ref q.2))) q.2=b:=fun q _ b f e=>by
      unfold iT;rw[S _ _ e]
     refine k D2 H5 (g.map fun q=>(q.1.tail,iT (upd H3 R (.lst (g.map fun q=>V.ref q.2))) q.2)) ⟨sAll,(((o.trans U).trans r).trans S).free bJ,?_,fun q X=>?_,?_,?_⟩
     ·rw[dX,Am,Am];rfl
     ·obtain⟨T,h0,rfl⟩:=List.mem_map.mp X
      obtain⟨b,f,g1,g2,g3⟩:=hq T h0;show Tp H5 (iT _ T.2) T.1.tail;rw[snd T h0 b f g2,g1];exact fT.tp (S.tp g3)
     ·rw[Am]
      have h1:=hp.map (fun q:List Int×Addr=>q.1.tail);have e:((((dd (pss.flatMap parts)).map fun f=>((f.length:Int)::f)).zip cs).map fun q:List Int×Addr=>q.1.tail)=dd (pss.flatMap parts):=by
       rw[show(fun q:List Int×Addr=>q.1.tail)=(fun l:List Int=>l.tail) ∘ Prod.fst from rfl,<-Am,List.map_fst_zip (by rw[Ab];omega),Am];exact List.map_id' _
      rw[e] at h1;exact h1
     ·rw[AW]
      refine hs.imp_of_mem fun{p q} h1 h2 Y=>?_;obtain⟨_,f,g1,_⟩:=hq p h1;obtain⟨_,f',pK,_⟩:=hq q h2;rw[g1,pK] at Y;rw[g1,pK];exact Y
end
end K63
end
section
namespace K63
open K1
open PySem L2 STb
abbrev o7:Stmt:=top 35
abbrev l':Stmt:=top 36
def texts:List Str:=(["","0","01 12 02","012 013 023 123","01 02 03","012 023 034 014","0123","01 23 45","012 34"]:List Str)++(["012 123 234 034 014","01 12 23 03 13","012 013 014","0 1 2 3"]:List Str)++(["01 12 02 34 45 35","023 234 1"]:List Str)
++(["014 015 023 025 034 123 124 135 245 345","012 013 024 034 125 135 245 345"]:List Str)++(["01234","0123 0124 0134 0234 1234"]:List Str)++(["013 123 234 024 014 145 125 025 056 016 126 267 027 037 345 356 367"]:List Str)
def wordsOf(n:Nat):List Str:=Txt.split (texts.getD n "") " "
def digits(x:Str):List Int:=x.cps.toList.map fun(c:Nat)=>((c:Int)-48)
def known(n:Nat):Ξ:=((wordsOf n).filter fun(x:Str)=>!decide (x="")).map digits
def FK:∀n,n<20->(texts.getD n "").length+2<=1000/\(wordsOf n).length<=20/\∀x∈wordsOf n,x.cps.size<=5/\∀c∈x.cps.toList,48<=c/\c<=57:=δ
def FM:∀c,48<=c->c<=57->intText? ⟨#[c]⟩=some ((c:Int)-48):=by
 intro c h1 h2;have:∀c,c<58->48<=c->intText? ⟨#[c]⟩=some ((c:Int)-48):=δ
 exact this c ω h1
section
variable{P:Program}{w:World}{K:Ae}{mg:Str->Option Value}{base:Heap}
def y7:Sp:=fun vs H Q _=>∃n:Nat,vs=[.int n]/\n<20/\∀D as H',Same H H'->H D=none->H' D=some (.lst (as.map V.ref))->Tps H' as (known n)->Q (.ref D) H'
def jN:zw ["number","some","web","word"] ["number"] (ze o7):=⟨rfl,rfl,rfl,δ,rfl,δ,δ⟩
def FN{H2:Hp}{x:Str}{D:Addr}{Q:VK}(hx:x.cps.size<=5)(hc:∀c∈x.cps.toList,48<=c/\c<=57)(f:H2 D=none)(k:∀H3,Same H2 H3->H3 D=some (.lst ((digits x).map V.int))->Q (.ref D) H3):bW (oC x) (cg 0) bq (gQ (fun xs H Q=>∃x n,xs=[.str x]/\intText? x=some n/\x.length<=640/\Q (.int n) H) (ci (aw 0) bc)) [none] H2 D Q:=by
 refine E_ (fun j σ ys H3=>∃v,σ=[v]/\Same H2 H3/\H3 D=some (.lst ys)/\ys=((digits x).take j).map V.int) ?_ ?_ ?_
 ·exact⟨none,rfl,Same.new f,za,rfl⟩
 ·rintro j σ ys H3 c g h hy ⟨v,rfl,d,b,rfl⟩
  have a:x.cps.toList[j]?=some c:=by simpa using g
  obtain⟨i,l⟩:=hc c (An a);refine bH ?_;refine⟨_,rfl,⟨#[c]⟩,_,rfl,FM c i l,by show 1<=640;decide,bb (zf ω) h hy b ⟨_,rfl,d.then f,za,?_⟩⟩;have e:(digits x)[j]?=some ((c:Int)-48):=by unfold digits;rw[Ak,a];rfl
  rw[AX e,Av];rfl
 ·rintro σ ys H3 ⟨v,rfl,d,b,rfl⟩
  rw[Ax (by unfold digits;simp)] at b;exact k H3 d b
def FO{f:Addr}{fd:FuncData}(F:Fun K "_law_known" "_law_known" o7 f fd)(B:Bt mg):FnOk P w K mg base aC 1 f fd ["number"] y7:=by
 refine F.ok jN (fun vs H Q E h=>?_) (fun aq A outer s H vs Q E hr h=>?_)
 ·obtain⟨n,rfl,_⟩:=h;rfl
 ·obtain⟨n,rfl,hn,k⟩:=h
  refine⟨_,zb (zu (i:=1) jN.nd rfl (Or.inl rfl) (zJ (ac pe_str (ac pe_str (ac pe_str (ac pe_str (ac pe_str (ac pe_str (ac pe_str (ac pe_str (ac pe_str ai)))))))))))
   (zb (zu (i:=1) jN.nd rfl (Or.inl rfl) (zz j7 (pv 1) (zJ (ac pe_str (ac pe_str (ac pe_str (ac pe_str (ac pe_str (ac pe_str ai)))))))))
   (zb (zu (i:=1) jN.nd rfl (Or.inl rfl) (zz j7 (pv 1) (zJ (ac pe_str (ac pe_str ai)))))
   (zb (zu (i:=1) jN.nd rfl (Or.inl rfl) (zz j7 (pv 1) (zJ (ac pe_str (ac pe_str ai)))))
   (zb (fy (jt PySem.F.plainAttrs_list PySem.F.slot_list_append PySem.F.type_list_append nL (pv 1) (ac pe_str ai)))
   (zb (zu (i:=2) jN.nd rfl (Or.inl rfl) (zJ ai))
   (zb (dF A8 rfl (zA (jt PySem.F.plainAttrs_str PySem.F.slot_str_split PySem.F.type_str_split E8 (bO zG (pv 1) (zz jk (pv 0) zg) (fun _ _=>rfl)) (ac pe_str ai))) (zr (i:=3) jN.nd rfl (Or.inl rfl))
    (zd (zP (zk nA (pv 3) pe_str (al _))
     (zd (fy (jt PySem.F.plainAttrs_list PySem.F.slot_list_append PySem.F.type_list_append nL (pv 2) (ac (zq si rfl B.tuple vq (ac
      (zy ["number","some","web","word"] ["sign"] [none] (E9 (pv 3)) (fun I C s₀ H₀ ex=>zr (i:=0) (cK ["sign"]) rfl (Or.inl rfl)) (fun I C s₀ H₀ ex=>zS)
       (fun I C s₀ H₀ ex=>zq Ey rfl B.int Ff (ac (pv 0) ai)) (hfr:=cS δ)) ai)) ai)))) zt)))
   (zd (zn (pv 2))))))))),?_⟩
  have t20:texts.length=20:=rfl;have dq:eC (texts.map V.str) ((n:Int)%20)=some (.str (texts.getD n "")):=by
   rw[show(n:Int)%20=(n:Int) from ω];refine ff ?_;have e:texts[n]?=some texts[n]:=Af ω;rw[Ak,AL,e];rfl
  obtain⟨g1,g2,g3⟩:=FK n hn;refine⟨zf (by simp),fun W h1=>?_⟩;have s1:=Same.new (H:=H) (o:=.lst [.str "",.str "0",.str "01 12 02",.str "012 013 023 123",.str "01 02 03",.str "012 023 034 014",.str "0123",.str "01 23 45",.str "012 34"]) h1;refine⟨_,rfl,zf (by simp),fun X J=>⟨W,X,_,_,rfl,rfl,Same.new J _ _ za,za,zf (by simp),fun Y h3=>?_⟩⟩;have s3:=(s1.trans (Same.new J)).trans (Same.new (o:=.lst ((texts.take 15).map V.str)) h3);refine⟨_,rfl,zf (by simp),fun m3 L=>⟨Y,m3,_,_,rfl,rfl,Same.new L _ _ za,za,zf (by simp),fun l4 h4=>?_⟩⟩;have O:=(s3.trans (Same.new L)).trans (Same.new (o:=.lst ((texts.take 17).map V.str)) h4);refine⟨_,rfl,zf (by simp),fun m4 r=>⟨l4,m4,_,_,rfl,rfl,Same.new r _ _ za,za,zf (by simp),fun c M=>?_⟩⟩;have s5:=(O.trans (Same.new r)).trans (Same.new (o:=.lst ((texts.take 19).map V.str)) M);have uZ:H c=none:=(O.trans (Same.new r)).free M;refine⟨_,rfl,.inl ⟨rfl,_,SqL.of za⟩,c,_,_,rfl,rfl,za,jJ (by simp),zf (by simp),fun b u=>?_⟩;generalize hH6:upd (upd _ c _) c _=H6 at u;have e6:H6 c=some (.lst (texts.map V.str)):=by rw[<-hH6,za];rfl
  have S:Same H H6:=by
   rw[<-hH6];exact s5.then uZ
  have d:H b=none:=S.free u;have T:Same H (upd H6 b (.lst [])):=S.then d;have e7:upd H6 b (.lst []) c=some (.lst (texts.map V.str)):=Same.new u _ _ e6;refine⟨_,rfl,_,rfl,_,_,rfl,rfl,(by show(0:Int)<20;decide),c,_,_,_,rfl,rfl,SqL.of e7,dq,rfl,_,_,rfl,rfl,ξ,zf ω,zf (show(wordsOf n).length<=100000 from ω),fun D N=>⟨D,rfl,⟨_,SqL.of za⟩,?_⟩⟩;have U:b≠D:=zl (H:=upd H6 b (.lst [])) za N;have cm:H D=none:=T.free N;refine gO (K:=K) (a:=D) (xs:=(wordsOf n).map V.str) (fun i σ H2=>∃as v,σ=[some (.int n),some (.ref c),some (.ref b),v]/\Same H H2/\H2 D=some (.lst ((wordsOf n).map V.str))/\H2 b=some (.lst (as.map V.ref))/\Tps H2 as ((((wordsOf n).take i).filter fun(x:Str)=>!decide (x="")).map digits))
   ⟨[],none,rfl,T.then cm,za,by rw[zh U];exact za,.nil⟩ (fun i σ H2 _ ⟨_,_,_,_,q,_⟩=>SqL.of q) ?_ ?_
  ·rintro i x σ H2 hx ⟨as,v,rfl,p,G,g,j⟩
   rw[Ak] at hx;cases ex:(wordsOf n)[i]? with
   |none=>rw[ex] at hx;cases hx
   |some y=>
    rw[ex] at hx;obtain rfl:=Al hx;have hi:i<(wordsOf n).length:=(List.getElem?_eq_some_iff.mp ex).1;obtain⟨y5,yc⟩:=g3 y (An ex);refine⟨_,rfl,rfl,_,rfl,?_⟩
    by_cases hy:y=""
    ·subst hy
     refine aB ⟨as,_,rfl,p,G,g,?_⟩;rw[AX ex,List.filter_append,Av]
     simpa using j
    ·rw[show(!decide (V.str y=V.str ""))=true from by simp[hy]]
     refine aT ⟨_,rfl,.inl ⟨rfl,_,SqL.of g⟩,_,rfl,y,rfl,fun D2 uo=>zF (FN y5 yc uo fun H3 aY aj=>⟨D2,_,rfl,.inl ⟨SqL.of aj,fun t eZ=>?_⟩⟩)⟩;have l:Same H2 (upd H3 t (.tup ((digits y).map V.int))):=aY.trans (Same.new eZ);have aM:=j.length;have iJ:as.length<=20:=by
      rw[aM,Ab];exact AF (List.length_filter_le _ _) (by rw[AM];omega)
     refine⟨b,_,_,rfl,rfl,l _ _ g,jJ (by rw[Ab];omega),⟨as++[t],_,rfl,(p.trans l).then d,?_,by rw[za,Av];rfl,?_⟩⟩
     ·rw[zh U.symm];exact l _ _ G
     ·rw[AX ex,List.filter_append,Av,show [y].filter (fun(x:Str)=>!decide (x=""))=[y] by simp[hy]]
      exact Tps.upd (Tps.snoc (l.tps j) za) (l _ _ g) (by intro xs z;cases z)
  ·rintro σ H2 ⟨as,v,rfl,p,G,g,j⟩
   rw[Ab,take_all] at j;exact⟨_,rfl,k b as H2 p d g j⟩
def cn(first a:Int)(ps:List Int):List Int:=ps.map fun x=>first+a*x
def y8:Sp:=fun vs H Q _=>∃p l as pss,vs=[.ref p,.ref l]/\zD H p/\H l=some (.lst (as.map V.ref))/\Tps H as pss/\pss.length<=20/\(∀ps∈pss,ps.length<=10)/\
 ∀D bs b first a H',zx p H H'->zD H' p->H D=none->H' D=some (.lst (bs.map V.ref))->Tps H' bs b->0<=first->first<12->1<=a->a<=3->b.Perm (pss.map (cn first a))->Q (.ref D) H'
def md:zw ["box","web","gap","first","found","piece"] ["box","web"] (ze l'):=⟨rfl,rfl,rfl,δ,rfl,δ,δ⟩
def FP{H2:Hp}{a D:Addr}{ps:List Int}{first b:Int}{Q:VK}(h:Tp H2 a ps)(hz:ps.length<=10)(l:1<=b/\b<=3)(f:H2 D=none)(k:∀H3,Same H2 H3->H3 D=some (.lst ((cn first b ps).map V.int))->Q (.ref D) H3):bW (iA K a) (cg 0) bq (da (eu fun i j=>.int (i+j)) (aw 1) (da (rI CMul fun i j=>.int (i*j)) (aw 2) (aw 0))) [none,some (.int first),some (.int b)] H2 D Q:=by
 refine yh (xs:=ps.map V.int) (fun j σ ys H3=>∃v,σ=[v,some (.int first),some (.int b)]/\Same H2 H3/\H3 D=some (.lst ys)/\ys=((cn first b ps).take j).map V.int) ?_ ?_ ?_ ?_
 ·exact⟨none,rfl,Same.new f,za,rfl⟩
 ·rintro j σ ys H3 ⟨v,rfl,c,d,rfl⟩
  exact SqT.of (c.tp h)
 ·rintro j σ ys H3 x hx g hy ⟨v,rfl,c,d,rfl⟩
  obtain⟨q,eq,rfl⟩:=kx hx;refine bH ?_;refine⟨_,rfl,_,rfl,_,rfl,_,_,rfl,rfl,.inl ⟨ω,ω⟩,_,_,rfl,rfl,bb (by rw[Ab];exact zf ω) g hy d ⟨_,rfl,c.then f,za,?_⟩⟩;have e:(cn first b ps)[j]?=some (first+b*q):=by unfold cn;rw[Ak,eq];rfl
  rw[AX e,Av];rfl
 ·rintro σ ys H3 ⟨v,rfl,c,d,rfl⟩
  rw[Ax (by unfold cn;simp)] at d;exact k H3 c d
def FQ{f L:Addr}{fd M:FuncData}(F:Fun K "_law_named" "_law_named" l' f fd)(B:Bt mg)(Ft:Fun K "_law_take" "_law_take" l8 L M)(bt:Binds K M ["box","most"] [])(mt:mg "_law_take"=some (.ref L)):FnOk P w K mg base aC 2 f fd ["box","web"] y8:=by
 have N:FnOk P w K mg base aC 1 L M ["box","most"] iS:=vI Ft;refine F.ok md (fun vs H Q E h=>?_) (fun aq A outer s H vs Q E hr h=>?_)
 ·obtain⟨p,l,as,pss,rfl,_⟩:=h;rfl
 ·obtain⟨p,l,as,pss,rfl,hb,G,U,fR,n8,k⟩:=h
  refine⟨_,zb (zu (i:=2) md.nd rfl (Or.inr rfl) (zz fe zg (zK N hr rfl mt Ft.kp bt .nil ao (ac (pv 0) (ac zg ai)))))
   (zb (zu (i:=3) md.nd rfl (Or.inr rfl) (zK N hr rfl mt Ft.kp bt .nil ao (ac (pv 0) (ac zg ai))))
   (zb (zu (i:=4) md.nd rfl (Or.inl rfl) (zJ ai))
   (zb (dF A8 rfl (zA (pv 1)) (zr (i:=5) md.nd rfl (Or.inl rfl))
    (zd (fy (jt PySem.F.plainAttrs_list PySem.F.slot_list_insert PySem.F.type_list_insert Ex (pv 4)
     (ac (zK N hr rfl mt Ft.kp bt .nil ao (ac (pv 0) (ac (zz fe (zi zm rfl B.len dh (ac (pv 4) ai)) zg) ai)))
     (ac (zq si rfl B.tuple vq (ac
      (zy ["box","web","gap","first","found","piece"] ["point","first","gap"] [none,some 3,some 2] (k7 (pv 5)) (fun O C s₀ H₀ ex=>zr (i:=0) (cK ["point","first","gap"]) rfl (Or.inl rfl)) (fun O C s₀ H₀ ex=>zS)
       (fun O C s₀ H₀ ex=>zz fe (pv 1) (zz jV (pv 2) (pv 0))) (hfr:=b9 (ze l') δ)) ai)) ai))))))
   (zd (zn (pv 4)))))),?_⟩
  refine⟨_,rfl,p,3,rfl,hb,ξ,ξ,fun c H1 a1 a2 cH cZ=>⟨_,_,rfl,rfl,?_⟩⟩;refine⟨_,rfl,p,12,rfl,cZ,ξ,ξ,fun d H2 c1 c2 mT S=>⟨zf (by simp),fun D T=>?_⟩⟩;have J:=cH.trans mT;have u:H D=none:=J.free hb S T;have W:l≠p:=hb.ne G;have aM:=U.length;refine⟨_,rfl,l,rfl,⟨_,SqL.of ((J.then u) _ _ W G)⟩,gO (K:=K) (a:=l) (xs:=as.map V.ref) (fun i σ H3=>∃bs b v,σ=[some (.ref p),some (.ref l),some (.int (1+c)),some (.int d),some (.ref D),v]/\zx p H H3/\zD H3 p/\H3 D=some (.lst (bs.map V.ref))/\Tps H3 bs b/\b.Perm ((pss.take i).map (cn d (1+c))))
   ⟨[],[],none,rfl,J.then u,S.new T,za,.nil,List.Perm.nil⟩ (fun i σ H3 _ ⟨_,_,_,_,sb,_⟩=>SqL.of (sb _ _ W G)) ?_ ?_⟩
  ·rintro i x σ H3 hx ⟨bs,b,v,rfl,q,g,e,hq,hp⟩
   obtain⟨a,ea,rfl⟩:=zV hx;obtain⟨ps,I,dM⟩:=U.get ea;have hi:i<pss.length:=(List.getElem?_eq_some_iff.mp I).1;have jh:=hq.length;have hql:b.length=i:=by rw[hp.length_eq,Ab,AM];omega
   have j:D≠p:=g.ne e;refine⟨_,rfl,.inl ⟨rfl,_,SqL.of e⟩,_,rfl,_,rfl,D,_,rfl,.inl (SqL.of e),_,_,rfl,rfl,p,_,rfl,g,by rw[Ab];omega,by rw[Ab];omega,fun r H4 r0 vw o bB=>?_⟩;rw[Ab] at vw;have X:Tp H4 a ps:=(q.trans o).tp hb dM;refine⟨_,rfl,a,rfl,⟨_,SqT.of X⟩,fun D2 bJ=>zF (FP X (n8 ps (An I)) ⟨ω,ω⟩ bJ fun H5 fT dX=>⟨D2,_,rfl,.inl ⟨SqL.of dX,fun t eZ=>?_⟩⟩)⟩;have y:Same H4 (upd H5 t (.tup ((cn d (1+c) ps).map V.int))):=fT.trans (Same.new eZ);have bC:=o _ _ j e;have Y:=y _ _ bC;have fQ:=bB.same y;refine⟨D,_,r,_,rfl,rfl,Y,r0,by rw[Ab];omega,jJ (by rw[Ab];omega),⟨bs.take r.toNat++t::bs.drop r.toNat,b.take r.toNat++cn d (1+c) ps::b.drop r.toNat,_,rfl,((q.trans o).trans (zx.of y)).then u,fQ.upd j,?_,?_,?_⟩⟩
   ·rw[za,Av,AE,List.map_take,List.map_drop]
   ·have tq:=y.tps (o.tps g hq)
    exact Tps.upd (Tps.append (tq.take _) (.cons za (tq.drop _))) Y (by intro xs z;cases z)
   ·rw[AX I,Av]
    have h1:(b.take r.toNat++cn d (1+c) ps::b.drop r.toNat).Perm (cn d (1+c) ps::b):=by
     have:=List.perm_middle (a:=cn d (1+c) ps) (l₁:=b.take r.toNat) (l₂:=b.drop r.toNat)
     rwa [List.take_append_drop] at this
    exact h1.trans ((List.perm_append_singleton _ _).symm.trans (List.Perm.append_right _ hp))
  ·rintro σ H3 ⟨bs,b,v,rfl,q,g,e,hq,hp⟩
   rw[Ab,aM,take_all] at hp;exact⟨_,rfl,k D bs b d (1+c) H3 q g u e hq c1 c2 ω ω hp⟩
end
end K63
end
section
namespace K63
open K1
open PySem L2 STb
abbrev jO:Stmt:=top 37
def gk(seq:List Int):List (Key×V):=(dd seq).map fun n=>((Sum.inl n:Key),V.bl true)
def FR(seq:List Int):(gk seq).length<=seq.length:=by unfold gk;rw[Ab];exact gi seq
def FS(seq:List Int)(n:Int):putK (gk seq) (Sum.inl n) (.bl true)=gk (seq++[n]):=by
 unfold putK gk;rw[g0];have a:(((dd seq).map fun n=>((Sum.inl n:Key),V.bl true)).any fun kv=>decide (kv.1=Sum.inl n))=decide (n∈dd seq):=by
  rw[List.any_map]
  by_cases h:n∈dd seq
  ·rw[decide_eq_true h,List.any_eq_true]
   exact⟨n,h,by simp⟩
  ·rw[decide_eq_false h,List.any_eq_false]
   intro q hq;simp only[Function.comp,decide_eq_true_eq,Sum.inl.injEq];rintro rfl;exact h hq
 rw[a]
 by_cases h:n∈dd seq
 ·rw[decide_eq_true h,if_pos rfl,if_pos h,Am]
  refine AO fun q hq=>?_;simp only[Function.comp];split<;>rfl
 ·rw[decide_eq_false h,if_neg (by simp),if_neg h,Av]
  rfl
def FT(seq:List Int):((gk seq).map fun kv=>kV kv.1)=(dd seq).map V.int:=by unfold gk;rw[Am];rfl
def FU{c:List Int}(h1:c.Pairwise (·<=·))(h2:c.Nodup):aO c=true:=by
 rw[vm];intro i a b f hb;obtain⟨d,g⟩:=List.getElem?_eq_some_iff.mp f;obtain⟨e,h⟩:=List.getElem?_eq_some_iff.mp hb;have g1:=List.pairwise_iff_getElem.mp h1 i (i+1) d e ω;have g2:=List.pairwise_iff_getElem.mp h2 i (i+1) d e ω;rw[g,h] at g1 g2;omega
def iU(pss:Ξ):Prop:=pss.Nodup/\∀ps∈pss,ps≠[]/\ps.length<=4/\aO ps=true/\∀x∈ps,0<=x/\x<=5
def Base(b:Ξ):Prop:=(∃n,n<20/\b=known n)\/(b.length<=5/\iU b)
def Drawn(c:Ξ):Prop:=∃b first a,Base b/\0<=first/\first<12/\1<=a/\a<=3/\c.Perm (b.map (cn first a))
def FV:∀n,n<20->(known n).length<=20/\∀ps∈known n,ps≠[]/\ps.length<=5:=δ
section
variable{P:Program}{w:World}{K:Ae}{mg:Str->Option Value}{base:Heap}
def y9:Sp:=fun vs H Q _=>∃p,vs=[.ref p]/\zD H p/\∀D bs a H',zx p H H'->zD H' p->H D=none->H' D=some (.lst (bs.map V.ref))->Tps H' bs a->Drawn a->Q (.ref D) H'
def kA:zw ["box","found","k","some","j","piece"] ["box"] (ze jO):=⟨rfl,rfl,rfl,δ,rfl,δ,δ⟩
def FW{f ft fn fk:Addr}{fd i0 n5 d0:FuncData}(F:Fun K "_law_web" "_law_web" jO f fd)(B:Bt mg)(Ft:Fun K "_law_take" "_law_take" l8 ft i0)(bt:Binds K i0 ["box","most"] [])(mt:mg "_law_take"=some (.ref ft))(Fn:Fun K "_law_named" "_law_named" l' fn n5)(bn:Binds K n5 ["box","web"] [])(mn:mg "_law_named"=some (.ref fn))(Fk:Fun K "_law_known" "_law_known" o7 fk d0)(bk:Binds K d0 ["number"] [])(mk:mg "_law_known"=some (.ref fk)):FnOk P w K mg base aC 3 f fd ["box"] y9:=by
 have Gt:FnOk P w K mg base aC 1 ft i0 ["box","most"] iS:=vI Ft;have Gn:FnOk P w K mg base aC 2 fn n5 ["box","web"] y8:=FQ Fn B Ft bt mt;have Gk:FnOk P w K mg base aC 1 fk d0 ["number"] y7:=FO Fk B;refine F.ok kA (fun vs H Q E h=>?_) (fun aq A outer s H vs Q E hr h=>?_)
 ·obtain⟨p,rfl,_⟩:=h;rfl
 ·obtain⟨p,rfl,hb,k⟩:=h
  have hu:=ey hr;have aE:=hr.units;have S:Room 1 _:=hr.mono ξ;refine⟨_,zb (zP (zk c5 (zK Gt S rfl mt Ft.kp bt .nil ao (ac (pv 0) (ac zg ai))) zg (al _))
    (zd (zn (zK Gn hr rfl mn Fn.kp bn .nil ao (ac (pv 0) (ac (zK Gk S rfl mk Fk.kp bk .nil ao (ac (zK Gt S rfl mt Ft.kp bt .nil ao (ac (pv 0) (ac zg ai))) ai)) ai))))) zt)
   (zb (zu (i:=1) kA.nd rfl (Or.inl rfl) (zJ ai))
   (zb (dF A8 rfl (iC rfl B.range (ac (zK Gt S rfl mt Ft.kp bt .nil ao (ac (pv 0) (ac zg ai))) ai)) (zr (i:=2) kA.nd rfl (Or.inl rfl))
    (zb (zu (i:=3) kA.nd rfl (Or.inl rfl) DK)
    (zb (dF A8 rfl (iC rfl B.range (ac (zz fe zg (zK Gt S rfl mt Ft.kp bt .nil ao (ac (pv 0) (ac zg ai)))) ai)) (zr (i:=4) kA.nd rfl (Or.inl rfl))
     (zd (gh hu (pv 3) (zK Gt S rfl mt Ft.kp bt .nil ao (ac (pv 0) (ac zg ai))) zY rfl)))
    (zb (zu (i:=5) kA.nd rfl (Or.inl rfl) (zq si rfl B.tuple vq (ac (zi t1 rfl B.sorted gj (ac (zq (tI rfl) rfl B.list er (ac (pv 3) ai)) ai)) ai)))
    (zd (zP (zk (Eu (in1_units aE)) (pv 5) (pv 1) (by with_unfolding_all rfl)) (zd (fy (jt PySem.F.plainAttrs_list PySem.F.slot_list_append PySem.F.type_list_append nL (pv 1) (ac (pv 5) ai)))) zt))))))
   (zd (zn (zK Gn hr rfl mn Fn.kp bn .nil ao (ac (pv 0) (ac (pv 1) ai))))))),?_⟩
  refine⟨_,rfl,p,2,rfl,hb,ξ,ξ,fun r H1 r0 r1 cH cZ=>⟨rfl,_,rfl,?_⟩⟩;refine bR (fun h1=>?_) (fun h1=>?_)
  ·refine⟨_,rfl,_,rfl,p,20,rfl,cZ,ξ,ξ,fun n H2 n0 n1 mT bA=>?_⟩
   obtain⟨m,rfl⟩:=Int.eq_ofNat_of_zero_le n0;refine⟨m,rfl,ω,fun D as H3 aY cm hD ht=>?_⟩;obtain⟨g1,g2⟩:=FV m ω;have T:=(cH.trans mT).trans (zx.of aY);have be:=bA.same aY;refine⟨p,D,as,known m,rfl,be,hD,ht,g1,fun ps hp=>by have:=(g2 ps hp).2;omega,fun D' bs aR first aQ C G u gF bC N c1 c2 c3 c4 cP=>?_⟩;exact k D' bs aR C (T.trans G) u (T.free hb be gF) bC N ⟨known m,first,aQ,.inl ⟨m,ω,rfl⟩,c1,c2,c3,c4,cP⟩
  ·refine⟨zf (by simp),fun L hL=>?_⟩
   have Y:H L=none:=cH.free hb cZ hL;refine⟨_,rfl,p,6,rfl,cZ.new hL,ξ,ξ,fun r6 H3 a1 a2 T be=>⟨r6,rfl,ω,ω,?_⟩⟩;have gW:L≠p:=zD.ne (as:=[]) (cZ.new hL) za;have l6:zx p H H3:=(cH.then Y).trans T;refine jU (lo:=0) (n:=r6.toNat) (fun i σ C=>∃as pss v2 v3 I v5,σ=[some (.ref p),some (.ref L),v2,v3,I,v5]/\zx p H C/\zD C p/\C L=some (.lst (as.map V.ref))/\Tps C as pss/\iU pss/\pss.length<=i)
    ⟨[],[],none,none,none,none,rfl,l6,be,T _ _ gW za,.nil,⟨List.nodup_nil,fun ps h=>nomatch h⟩,Ah _⟩ ?_ ?_
   ·rintro i σ C hi ⟨as,pss,v2,v3,I,v5,rfl,G,u,lu,N,c,W⟩
    have aM:=N.length;intro d hd;have bZ:H d=none:=G.free hb u hd;have qK:L≠d:=zl lu hd;refine⟨_,rfl,p,4,rfl,u.new hd,ξ,ξ,fun r4 H5 e1 e2 O bL=>⟨_,_,rfl,rfl,_,rfl,ω,ω,?_⟩⟩;have lF:d≠p:=by
     obtain⟨x,y,e,_⟩:=u.new (o:=.dK []) hd;exact e8 za e (by intro z;cases z)
    have s4:=Same.new (o:=.dK []) hd;refine jU (lo:=0) (n:=(1+r4).toNat) (fun j σ q=>∃seq I,σ=[some (.ref p),some (.ref L),some (.int (0+i)),some (.ref d),I,v5]/\zx p H q/\zD q p/\q L=some (.lst (as.map V.ref))/\Tps q as pss/\q d=some (.dK (gk seq))/\seq.length=j/\∀x∈seq,0<=x/\x<=5)
     ⟨[],_,rfl,(G.then bZ).trans O,bL,O _ _ gW (s4 _ _ lu),O.tps (u.new hd) (s4.tps N),O _ _ lF za,rfl,fun x h=>nomatch h⟩ ?_ ?_
    ·rintro j σ q hj ⟨seq,I,rfl,gE,fQ,J,X,lD,k6,mM⟩
     refine⟨_,rfl,_,rfl,p,6,rfl,fQ,ξ,ξ,fun r H7 f1 f2 v gR=>⟨d,_,rfl,DPut.k (k:=Sum.inl r) (v _ _ lF lD) (jJ (by have:=FR seq;omega)),⟨seq++[r],_,rfl,(gE.trans v).then bZ,gR.upd lF,?_,?_,by rw[za,FS],by rw[AC,k6];rfl,?_⟩⟩⟩
     ·rw[zh qK];exact v _ _ gW J
     ·exact Tps.upd (v.tps fQ X) (v _ _ lF lD) (by intro xs z;cases z)
     ·intro x hx
      rcases List.mem_append.mp hx with hx|hx
      ·exact mM x hx
      ·rw[List.mem_singleton] at hx;subst hx;omega
    ·rintro σ q ⟨seq,I,rfl,gE,fQ,J,X,lD,k6,mM⟩
     refine⟨_,rfl,d,_,rfl,lD,fun l2 hl2=>⟨l2,dd seq,rfl,SqL.of (by rw[za,FT]),(by have:=gi seq;omega),fun D2 g hp hs bJ=>⟨D2,_,rfl,.inl ⟨SqL.of za,fun t eZ=>?_⟩⟩⟩⟩;have l:Same q (upd (upd (upd q l2 (.lst ((gk seq).map fun kv=>kV kv.1))) D2 (.lst (g.map V.int))) t (.tup (g.map V.int))):=((Same.new hl2).trans (Same.new bJ)).trans (Same.new eZ);generalize hH7:upd (upd (upd q l2 (.lst ((gk seq).map fun kv=>kV kv.1))) D2 (.lst (g.map V.int))) t (.tup (g.map V.int))=H7 at l;have ph:Tp H7 t g:=by rw[<-hH7];exact za
     have v:=gE.trans (zx.of l);have gR:=fQ.same l;refine⟨_,rfl,_,rfl,t,L,g,as,pss,rfl,rfl,ph,SqL.of (l _ _ J),l.tps X,_,rfl,?_⟩;have tF:g≠[]/\g.length<=4/\aO g=true/\∀x∈g,0<=x/\x<=5:=by
      refine⟨fun z=>?_,?_,FU hs (hp.nodup_iff.mpr (oy seq)),fun x hx=>mM x ((jE seq x).mp (hp.mem_iff.mp hx))⟩
      ·have h0:dd seq=[]:=by rw[z] at hp;exact(List.nil_perm.mp hp)
       cases hq:seq with
       |nil=>rw[hq] at k6;simp at k6;omega
       |cons x r=>
        have:=(jE seq x).mpr (by rw[hq];exact AB);rw[h0] at this;cases this
      ·have:=gi seq
       rw[hp.length_eq];omega
     by_cases M:g∈pss
     ·rw[decide_eq_true M]
      exact aB ⟨as,pss,_,_,_,_,rfl,v,gR,l _ _ J,l.tps X,c,ω⟩
     ·rw[decide_eq_false M]
      refine aT ⟨_,rfl,.inl ⟨rfl,_,SqL.of (l _ _ J)⟩,_,rfl,L,_,_,rfl,rfl,l _ _ J,jJ (by rw[Ab];omega),⟨as++[t],pss++[g],_,_,_,_,rfl,v.then Y,gR.upd gW,by rw[za,Av];rfl,Tps.upd (Tps.snoc (l.tps X) ph) (l _ _ J) (by intro xs z;cases z),⟨?_,?_⟩,by rw[AC];simp;omega⟩⟩
      ·rw[List.nodup_append]
       refine⟨c.1,by simp,fun a ha b U e=>?_⟩;rw[List.mem_singleton] at U;subst U;subst e;exact M ha
      ·intro ps dM
       rcases List.mem_append.mp dM with h|h
       ·exact c.2 ps h
       ·rw[List.mem_singleton] at h;subst h;exact tF
   ·rintro σ C ⟨as,pss,v2,v3,I,v5,rfl,G,u,lu,N,c,W⟩
    refine⟨_,rfl,_,rfl,p,L,as,pss,rfl,u,lu,N,ω,fun ps hp=>by have:=(c.2 ps hp).2.1;omega,fun D' bs aR first aQ H5 O bL gF dX sy c1 c2 c3 c4 cP=>?_⟩;exact k D' bs aR H5 (G.trans O) bL (G.free hb u gF) dX sy ⟨pss,first,aQ,.inr ⟨ω,c⟩,c1,c2,c3,c4,cP⟩
end
end K63
end
section
namespace K1
open PySem L2 STb
def y_:∀a b:List Int,HT.lexLt a b=true->HT.lexLt b a=false
 |[],[],h=>rfl
 |[],_::_,h=>rfl
 |_::_,[],h=>by rw[HT.xB] at h;exact absurd h Au
 |x::xs,y::ys,h=>by
  rw[HT.zv] at h ⊢
  by_cases e:x=y
  ·rw[if_pos e] at h;rw[if_pos e.symm];exact y_ xs ys h
  ·rw[if_neg e] at h;rw[if_neg (fun z=>e z.symm)]
   have:=of_decide_eq_true h;exact decide_eq_false ω
def vP:∀a b:List Int,HT.lexLt a b=false->HT.lexLt b a=false->a=b
 |[],[],_,_=>rfl
 |[],_::_,h,_=>by rw[HT.zW] at h;exact absurd h ξ
 |_::_,[],_,h=>by rw[HT.zW] at h;exact absurd h ξ
 |x::xs,y::ys,h,h'=>by
  rw[HT.zv] at h h'
  by_cases e:x=y
  ·rw[if_pos e] at h;rw[if_pos e.symm] at h'
   rw[e,vP xs ys h h']
  ·rw[if_neg e] at h;rw[if_neg (fun z=>e z.symm)] at h'
   have:=of_decide_eq_false h;have:=of_decide_eq_false h';omega
def kb:∀a b c:List Int,HT.lexLt b a=false->HT.lexLt c b=false->HT.lexLt c a=false
 |[],b,c,_,_=>by cases c with
  |nil=>rfl
  |cons _ _=>rfl
 |_::_,[],c,h,_=>by rw[HT.zW] at h;exact absurd h ξ
 |_::_,_::_,[],_,h=>by rw[HT.zW] at h;exact absurd h ξ
 |x::xs,y::ys,z::zs,h,h'=>by
  rw[HT.zv] at h h' ⊢
  by_cases e:y=x
  ·rw[if_pos e] at h
   by_cases e2:z=y
   ·rw[if_pos e2] at h';rw[if_pos (e2.trans e)];exact kb xs ys zs h h'
   ·rw[if_neg e2] at h';rw[if_neg ω]
    have:=of_decide_eq_false h';exact decide_eq_false ω
  ·rw[if_neg e] at h
   have h1:=of_decide_eq_false h
   by_cases e2:z=y
   ·rw[if_neg ω]
    exact decide_eq_false ω
   ·rw[if_neg e2] at h'
    have h2:=of_decide_eq_false h';rw[if_neg ω];exact decide_eq_false ω
def key(p:List Int):List Int:=(p.length:Int)::p
def kle(a b:List Int):Bool:=!HT.lexLt (key b) (key a)
def iX{a b:List Int}:kle a b=true↔HT.lexLt (key b) (key a)=false:=by unfold kle;simp
def canon(pss:Ξ):Ξ:=(dd (pss.flatMap parts)).mergeSort kle
def o8(pss:Ξ):(canon pss).Perm (dd (pss.flatMap parts)):=List.mergeSort_perm _ _
def o9(pss:Ξ):(canon pss).Pairwise (fun a b=>kle a b=true):=by
 refine List.pairwise_mergeSort (fun a b c h1 h2=>?_) (fun a b=>?_) _
 ·rw[iX] at h1 h2 ⊢;exact kb _ _ _ h1 h2
 ·rw[Bool.or_eq_true,iX,iX]
  cases h:HT.lexLt (key b) (key a) with
  |false=>exact .inl rfl
  |true=>exact .inr (y_ _ _ h)
def hF{pss:Ξ}{x:List Int}:x∈canon pss↔x∈pss.flatMap parts:=by rw[(o8 pss).mem_iff,jE]
def zR(pss:Ξ):(canon pss).Nodup:=(o8 pss).nodup_iff.mpr (oy _)
def o_(pss:Ξ):(canon pss).length=(dd (pss.flatMap parts)).length:=(o8 pss).length_eq
def FX{l m:Ξ}(hp:l.Perm m)(h1:l.Pairwise (fun a b=>kle a b=true))(h2:m.Pairwise (fun a b=>kle a b=true)):l=m:=by
 refine List.Perm.eq_of_pairwise (fun a b _ _ g1 g2=>?_) h1 h2 hp;rw[iX] at g1 g2;have:=vP _ _ g2 g1;unfold key at this;exact(List.cons.inj this).2
def canon_of{pss l:Ξ}(hp:l.Perm (dd (pss.flatMap parts)))(hs:l.Pairwise (fun a b=>HT.lexLt ((b.length:Int)::b) ((a.length:Int)::a)=false)):l=canon pss:=
 FX (hp.trans (o8 pss).symm) (hs.imp fun h=>iX.mpr h) (o9 pss)
def pc:∀(n:Nat)(p q:List Int),p.length=n->(q∈subs p↔q.Sublist p)
 |0,p,q,h=>by
  obtain rfl:=List.eq_nil_of_length_eq_zero h;show q∈[[]]↔_;simp
 |n+1,p,q,h=>by
  obtain⟨r,x,rfl⟩:∃r x,p=r++[x]:=by
   rcases List.eq_nil_or_concat p with e|⟨r,x,e⟩
   ·rw[e] at h;cases h
   ·exact⟨r,x,by rw[e,List.concat_eq_append]⟩
  have hr:r.length=n:=by simpa using h
  rw[vj,List.mem_append,pc n r q hr,List.mem_map,List.sublist_append_iff];constructor
  ·rintro(h1|⟨y,hy,rfl⟩)
   ·exact⟨q,[],by simp,h1,List.nil_sublist _⟩
   ·exact⟨y,[x],rfl,(pc n r y hr).mp hy,List.Sublist.refl _⟩
  ·rintro⟨a,d,rfl,b,c⟩
   cases c with
   |cons _ h=>
    obtain rfl:=List.sublist_nil.mp h;exact .inl (by simpa using b)
   |cons_cons _ h=>
    obtain rfl:=List.sublist_nil.mp h;exact .inr ⟨a,(pc n r a hr).mpr b,rfl⟩
def zO{p q:List Int}:q∈parts p↔q≠[]/\q.Sublist p:=by
 obtain⟨t,e,a⟩:=vl p;have hs:=pc p.length p q rfl;rw[e] at hs;unfold parts;rw[e];show q∈t↔_;constructor
 ·intro h
  exact⟨a q h,hs.mp (Ay _ h)⟩
 ·rintro⟨h1,h2⟩
  rcases List.mem_cons.mp (hs.mpr h2) with h|h
  ·exact absurd h h1
  ·exact h
def me:∀p:List Int,aO p=true↔p.Pairwise (·<·)
 |[]=>by simp[aO]
 |[a]=>by simp[aO]
 |a::b::r=>by
  have c:=me (b::r);rw[show aO (a::b::r)=(decide (a<b)&&aO (b::r)) from rfl,AN,decide_eq_true_eq,c,List.pairwise_cons (a:=a)];constructor
  ·rintro⟨h1,h2⟩
   refine⟨fun x hx=>?_,h2⟩;rcases List.mem_cons.mp hx with rfl|hx
   ·exact h1
   ·have:=(List.pairwise_cons.mp h2).1 x hx
    omega
  ·rintro⟨h1,h2⟩
   exact⟨h1 b AB,h2⟩
def pd{p:List Int}:fj p=true↔p≠[]/\p.length<=5/\(∀x∈p,0<=x/\x<=99)/\p.Pairwise (·<·):=by
 unfold fj;simp only[AN,decide_eq_true_eq,List.all_eq_true,me];constructor
 ·rintro⟨⟨⟨h1,h2⟩,a⟩,b⟩
  exact⟨fun z=>by rw[z] at h1;simp at h1,h2,a,b⟩
 ·rintro⟨h1,h2,a,b⟩
  refine⟨⟨⟨?_,h2⟩,a⟩,b⟩;cases p with
  |nil=>exact absurd rfl h1
  |cons _ _=>simp
def FY{p q:List Int}(h:fj p=true)(hq:q∈parts p):fj q=true:=by
 rw[pd] at h ⊢;rw[zO] at hq;exact⟨hq.1,AF hq.2.length_le h.2.1,fun x hx=>h.2.2.1 x (hq.2.subset hx),h.2.2.2.sublist hq.2⟩
def FZ{pss:Ξ}(g:pss.Nodup)(hp:∀p∈pss,fj p=true):yN pss pss.length:=by
 intro i p hi e;refine⟨fun hm=>?_,hp p (An e)⟩;obtain⟨j,b⟩:=List.mem_iff_getElem?.mp hm;obtain⟨c,a⟩:=List.getElem?_eq_some_iff.mp b;rw[AM] at c;obtain⟨d,f⟩:=List.getElem?_eq_some_iff.mp e;have:=List.pairwise_iff_getElem.mp g j i ω d ω;rw[List.getElem_take] at a;exact this (a.trans f.symm)
def F0{pss:Ξ}(a:pss.length<=20)(b:pss.Nodup)(hp:∀p∈pss,fj p=true)(h:(dd (pss.flatMap parts)).length<=200):br pss=true:=by
 rw[Fb pss a (FZ b hp),decide_eq_true h]
def pu{pss:Ξ}(h:br pss=true):pss.length<=20/\(∀p∈pss,fj p=true)/\(∀p∈pss,p.length<=5)/\(dd (pss.flatMap parts)).length<=200:=by
 unfold br at h;simp only[AN,decide_eq_true_eq,List.all_eq_true] at h;obtain⟨⟨⟨h1,h2⟩,c⟩,b⟩:=h;have a:∀p∈pss,fj p=true:=fun p hp=>by rw[<-yM];exact h2 p hp
 exact⟨h1,a,fun p hp=>(pd.mp (a p hp)).2.1,b⟩
def over(o p:List Int):Bool:=decide (p.length<o.length)&&p.all fun x=>decide (x∈o)
end K1
end
section
namespace K63
open K1
open PySem L2 STb
def F6(b:Ξ):Prop:=b.Nodup/\b.length<=17/\(∀ps∈b,ps≠[]/\ps.length<=5/\aO ps=true/\∀x∈ps,0<=x/\x<=7)/\(b.flatMap parts).length<=200
def F9:∀n,n<20->(known n).Nodup/\(known n).length<=17/\(∀ps∈known n,ps≠[]/\ps.length<=5/\aO ps=true/\∀x∈ps,0<=x/\x<=7)/\((known n).flatMap parts).length<=200:=δ
def y'{m:Nat}:∀{b:Ξ},(∀ps∈b,(parts ps).length<=m)->(b.flatMap parts).length<=m*b.length
 |[],_=>by simp
 |p::r,h=>by
  have h1:=h p AB;have h2:=y' (b:=r) fun q hq=>h q (Ay _ hq);rw[List.flatMap_cons,AC,Aw,Nat.mul_succ];omega
def zc{b:Ξ}(h:Base b):F6 b:=by
 rcases h with ⟨n,a,rfl⟩|⟨e,hs⟩
 ·exact F9 n a
 ·refine⟨hs.1,ω,fun ps hp=>?_,?_⟩
  ·obtain⟨h1,h2,c,d⟩:=hs.2 ps hp
   exact⟨h1,ω,c,fun x hx=>by have:=d x hx;omega⟩
  ·have:=y' (m:=15) (b:=b) fun ps hp=>by
    rw[kq];have h2:=(hs.2 ps hp).2.1;have:2 ^ ps.length<=2 ^ 4:=Nat.pow_le_pow_right ξ h2;omega
   omega
def F_{first a:Int}(b:1<=a){p q:List Int}(h:cn first a p=cn first a q):p=q:=by
 unfold cn at h;refine(List.map_inj_right (f:=fun x=>first+a*x) (fun x y e=>?_)).mp h;have:a*x=a*y:=ω
 exact Int.eq_of_mul_eq_mul_left ω this
def F'{first f:Int}(i:0<=first)(h1:first<12)(j:1<=f)(ld:f<=3){p:List Int}(h:p≠[]/\p.length<=5/\aO p=true/\∀x∈p,0<=x/\x<=7):fj (cn first f p)=true:=by
 obtain⟨a,b,c,d⟩:=h;rw[pd];unfold cn;refine⟨fun z=>a (List.map_eq_nil_iff.mp z),by rw[Ab];exact b,fun y hy=>?_,?_⟩
 ·obtain⟨x,hx,rfl⟩:=List.mem_map.mp hy
  have:=d x hx;have g:f=1\/f=2\/f=3:=ω
  rcases g with rfl|rfl|rfl<;>omega
 ·rw[me] at c
  rw[AW];refine c.imp fun{x y} e=>?_;have:f*x<f*y:=Int.mul_lt_mul_of_pos_left e ω;omega
def Gb{q:Ξ}(h:Drawn q):br q=true/\q.Nodup/\q.length<=17:=by
 obtain⟨b,first,d,hb,f,h1,a,ld,hp⟩:=h;obtain⟨n1,n2,g,i⟩:=zc hb;have j:q.length<=17:=by rw[hp.length_eq,Ab];exact n2
 have c:q.Nodup:=by
  rw[hp.nodup_iff];unfold List.Nodup at n1 ⊢;rw[AW];exact n1.imp fun{x y} e z=>e (F_ a z)
 refine⟨F0 ω c (fun p hm=>?_) ?_,c,j⟩
 ·obtain⟨r,hr,rfl⟩:=List.mem_map.mp (hp.mem_iff.mp hm)
  exact F' f h1 a ld (g r hr)
 ·refine AF (gi _) ?_
  rw[(hp.flatMap_right parts).length_eq];have:∀b:Ξ,((b.map (cn first d)).flatMap parts).length=(b.flatMap parts).length:=by
   intro b
   induction b with
   |nil=>rfl
   |cons p r ih=>
    rw[AE,List.flatMap_cons,List.flatMap_cons,AC,AC,ih,kq,kq];unfold cn;rw[Ab]
  rw[this];exact i
end K63
end
section
namespace K1
open PySem L2 STb
def rims(q:List Int):Ξ:=if q.length=1 then [] else(Bb q.length).map fun k=>q.take k++q.drop (k+1)
def pw(q:List Int):(rims q).length<=q.length:=by
 unfold rims;split
 ·exact AK _
 ·simp
def Gc{p q:List Int}:p∈rims q↔q.length≠1/\∃k,k<q.length/\p=q.take k++q.drop (k+1):=by
 unfold rims;split
 next h=>simp[h]
 next h=>
  rw[List.mem_map];constructor
  ·rintro⟨k,hk,rfl⟩
   exact⟨h,k,List.mem_range.mp hk,rfl⟩
  ·rintro⟨_,k,hk,rfl⟩
   exact⟨k,List.mem_range.mpr hk,rfl⟩
def vS:∀(o p:List Int),o.Pairwise (·<·)->p.Pairwise (·<·)->(∀x∈p,x∈o)->p.Sublist o
 |[],p,_,_,h=>by
  cases p with
  |nil=>exact List.Sublist.slnil
  |cons a r=>exact absurd (h a AB) (by simp)
 |b::o,p,ho,hp,h=>by
  obtain⟨f,c⟩:=List.pairwise_cons.mp ho;cases p with
  |nil=>exact List.nil_sublist _
  |cons a r=>
   obtain⟨d,g⟩:=List.pairwise_cons.mp hp
   by_cases e:a=b
   ·subst e
    refine(vS o r c g fun x hx=>?_).cons_cons a;rcases List.mem_cons.mp (h x (Ay _ hx)) with rfl|q
    ·have:=d x hx;omega
    ·exact q
   ·have i:a∈o:=by
     rcases List.mem_cons.mp (h a AB) with q|q
     ·exact absurd q e
     ·exact q
    have j:=f a i;refine(vS o (a::r) c hp fun x hx=>?_).cons b;rcases List.mem_cons.mp (h x hx) with q|q
    ·exfalso
     rcases List.mem_cons.mp hx with z|z
     ·omega
     ·have:=d x z;omega
    ·exact q
def Gd{p q:List Int}{k:Nat}(hk:k<q.length)(h:p=q.take k++q.drop (k+1)):p.Sublist q/\p.length<q.length:=by
 subst h;refine⟨?_,?_⟩
 ·have h1:(q.take k++q.drop (k+1)).Sublist (q.take k++q.drop k):=(List.Sublist.refl _).append (by
   rw[show q.drop (k+1)=(q.drop k).drop 1 by rw[List.drop_drop]];exact List.drop_sublist _ _)
  rwa [List.take_append_drop] at h1
 ·rw[AC,AM,List.length_drop]
  omega
end K1
end
section
namespace K63
open K1
open PySem L2 STb
def Ge:∀n,n<20->(dd ((known n).flatMap parts)).length<=56:=δ
def six:Ξ:=(parts [0,1,2,3,4,5]).filter fun q=>decide (q.length<=4)
def Gf:six.length=56:=δ
def Gg{b:Ξ}(h:Base b):(dd (b.flatMap parts)).length<=56:=by
 rcases h with ⟨n,a,rfl⟩|⟨c,hs⟩
 ·exact Ge n a
 ·rw[<-Gf]
  refine(oy _).length_le_of_subset fun x hx=>?_;rw[jE,List.mem_flatMap] at hx;obtain⟨p,hp,hx⟩:=hx;obtain⟨_,d,hr,hb⟩:=hs.2 p hp;rw[zO] at hx;have e:=hx.2.length_le;unfold six;rw[List.mem_filter,zO];refine⟨⟨hx.1,hx.2.trans (vS _ _ ξ ((me p).mp hr) fun y hy=>?_)⟩,decide_eq_true ω⟩;have:=hb y hy;have:y=0\/y=1\/y=2\/y=3\/y=4\/y=5:=ω
  rcases this with rfl|rfl|rfl|rfl|rfl|rfl<;>decide
def Gh{q:Ξ}(h:Drawn q):(dd (q.flatMap parts)).length<=56:=by
 obtain⟨b,first,d,hb,_,_,_,_,hp⟩:=h;refine AF ?_ (Gg hb);have e:((dd (b.flatMap parts)).map (cn first d)).length=(dd (b.flatMap parts)).length:=Ab _;rw[<-e];refine(oy _).length_le_of_subset fun x hx=>?_;rw[jE,List.mem_flatMap] at hx;obtain⟨p,hm,hx⟩:=hx;obtain⟨r,hr,rfl⟩:=List.mem_map.mp (hp.mem_iff.mp hm);rw[zO] at hx;obtain⟨a,c⟩:=hx;unfold cn at c;obtain⟨y,hy,rfl⟩:=List.sublist_map_iff.mp c;refine List.mem_map.mpr ⟨y,?_,rfl⟩;rw[jE,List.mem_flatMap];exact⟨r,hr,zO.mpr ⟨fun z=>a (by rw[z];rfl),hy⟩⟩
end K63
end
section
namespace K63
open K1
open PySem L2 STb
def du(pss:Ξ):Prop:=br pss=true/\(canon pss).length<64
abbrev pD:Stmt:=top 21
abbrev pE:Stmt:=top 22
def z0{H:Hp}:∀{a:List (List Int×Addr)},(∀q∈a,Tp H q.2 q.1)->Tps H (a.map (·.2)) (a.map (·.1))
 |[],_=>.nil
 |q::r,h=>.cons (h q AB) (z0 fun x hx=>h x (Ay _ hx))
def z_{H H2:Hp}{pss:Ξ}{D:Addr}{a:List (List Int×Addr)}(t:Told H H2 pss D a):∃bs,Same H H2/\H D=none/\H2 D=some (.lst (bs.map V.ref))/\Tps H2 bs (canon pss):=by
 obtain⟨b,c,d,hq,hp,hs⟩:=t;have e:a.map (·.1)=canon pss:=canon_of hp (List.pairwise_map.mpr hs);refine⟨a.map (·.2),b,c,by rw[d,Am];rfl,?_⟩;rw[<-e];exact z0 hq
section
variable{P:Program}{w:World}{K:Ae}{mg:Str->Option Value}{base:Heap}
def pF(K:Ae):Sp:=fun vs H Q _=>∃l as pss,vs=[.ref l]/\SqL K H l (as.map V.ref)/\Tps H as pss/\du pss/\∀D H2 bs,Same H H2->H D=none->H2 D=some (.lst (bs.map V.ref))->Tps H2 bs (canon pss)->Q (.ref D) H2
def Gj:zw ["web"] ["web"] (ze pE):=⟨rfl,rfl,rfl,δ,rfl,δ,δ⟩
def Gq:zw ["web"] ["web"] (ze pD):=⟨rfl,rfl,rfl,δ,rfl,δ,δ⟩
def AG(K:Ae):Sp:=fun vs H Q _=>∃l as pss,vs=[.ref l]/\SqL K H l (as.map V.ref)/\Tps H as pss/\du pss/\∀H2,Same H H2->Q .non H2
def Gr{f fw:Addr}{fd fg:FuncData}(F:Fun K "must_be_web" "must_be_web" pD f fd)(Fw:Fun K "is_web" "is_web" oM fw fg)(d:Binds K fg ["web"] [])(e:mg "is_web"=some (.ref fw))(g:FnOk P w K mg base aC 6 fw fg ["web"] (yX K)):FnOk P w K mg base aC 7 f fd ["web"] (AG K):=by
 refine F.ok Gq (fun vs H Q E h=>?_) (fun i A outer s H vs Q E hr h=>?_)
 ·obtain⟨l,as,pss,rfl,_⟩:=h;rfl
 ·obtain⟨l,as,pss,rfl,b,c,hw,k⟩:=h
  refine⟨_,zd (zP (dY (et (zK g hr rfl e Fw.kp d .nil ao (ac (pv 0) ai)))) CW zt),?_⟩;refine⟨_,rfl,l,as,pss,rfl,b,c,(fun _=>by rw[<-o_];exact hw.2),fun H1 a=>⟨_,rfl,?_⟩⟩;rw[hw.1];exact aB (k H1 a)
def Gs{f fw fa:Addr}{fd fg c:FuncData}(F:Fun K "pieces" "pieces" pE f fd)(Fw:Fun K "must_be_web" "must_be_web" pD fw fg)(q:Binds K fg ["web"] [])(r:mg "must_be_web"=some (.ref fw))(x:FnOk P w K mg base aC 7 fw fg ["web"] (AG K))(Fa:Fun K "all_parts" "all_parts" sAll fa c)(u:Binds K c ["some"] [])(v:mg "all_parts"=some (.ref fa))(y:FnOk P w K mg base aC 5 fa c ["some"] (l5 K)):FnOk P w K mg base aC 8 f fd ["web"] (pF K):=by
 refine F.ok Gj (fun vs H Q E h=>?_) (fun z A outer s H vs Q E hr h=>?_)
 ·obtain⟨l,as,pss,rfl,_⟩:=h;rfl
 ·obtain⟨l,as,pss,rfl,d,e,hw,k⟩:=h
  have b:Room 5 _:=hr.mono ξ;refine⟨_,zb (fy (zK x hr rfl r Fw.kp q .nil ao (ac (pv 0) ai)))
   (zd (zn (zK y b rfl v Fa.kp u .nil ao (ac (pv 0) ai)))),?_⟩
  obtain⟨g,_,i,_⟩:=pu hw.1;refine⟨_,rfl,l,as,pss,rfl,d,e,hw,fun H1 a=>?_⟩;refine⟨_,rfl,l,as,pss,rfl,a.seq d,a.tps e,i,g,(by rw[<-o_];exact hw.2),fun D H2 C t=>?_⟩;obtain⟨bs,j,o,p,hb⟩:=z_ t;exact k D H2 bs (a.trans j) (a.free o) p hb
end
end K63
end
section
namespace K63
open K1
open PySem L2 STb
abbrev pH:Stmt:=top 13
def mf(xs:List V)(i:Nat)(h:i<=xs.length):bx xs none (some (i:Int))=xs.take i:=by
 unfold bx;rw[HT.nG,HT.lh,Nat.min_eq_left h,List.drop_zero,Nat.sub_zero]
def mj(xs:List V)(i:Nat)(h:i<=xs.length):bx xs (some (i:Int)) none=xs.drop i:=by
 unfold bx;rw[HT.nG,HT.lh,Nat.min_eq_left h];exact Ax (by rw[List.length_drop];exact Ah _)
abbrev hX:TE:=da tM (rK jI (aw 1) rB (rE (aw 0))) (rK jI (aw 1) (rE (da (eu fun i j=>.int (i+j)) (aw 0) (tC (.int 1)))) rB)
section
variable{P:Program}{w:World}{K:Ae}{mg:Str->Option Value}{base:Heap}
def Gu{H2:Hp}{a D:Addr}{ps:List Int}{Q:VK}(p:Tp H2 a ps)(hz:ps.length<=5)(q:H2 D=none)(k:∀(H3:Hp)(bs:List Addr),Same H2 H3->H3 D=some (.lst (bs.map V.ref))->Tps H3 bs ((Bb ps.length).map fun k=>ps.take k++ps.drop (k+1))->Q (.ref D) H3):bW (gM 0 ps.length) (cg 0) bq hX [none,some (.ref a)] H2 D Q:=by
 refine yi (fun j σ ys H3=>∃(v:Option V)(bs:List Addr),σ=[v,some (.ref a)]/\Same H2 H3/\H3 D=some (.lst ys)/\ys=bs.map V.ref/\Tps H3 bs (((Bb ps.length).map fun k=>ps.take k++ps.drop (k+1)).take j)) ?_ ?_ ?_
 ·exact⟨none,[],rfl,Same.new q,za,rfl,.nil⟩
 ·rintro j σ ys H3 o hy ⟨v,bs,rfl,b,c,rfl,hb⟩
  have e:((Bb ps.length).map fun k=>ps.take k++ps.drop (k+1))[j]?=some (ps.take j++ps.drop (j+1)):=by rw[Ak,List.getElem?_range o];rfl
  refine bH ?_;refine⟨_,rfl,_,rfl,_,rfl,a,_,rfl,b.tp p,fun r w f g=>⟨_,rfl,_,rfl,_,_,rfl,rfl,_,rfl,a,_,rfl,f _ _ (b.tp p),fun p2 x h i=>?_⟩⟩;rw[show(0:Int)+((j:Nat):Int)=((j:Nat):Int) from ω,mf _ _ (by rw[Ab];omega),<-List.map_take] at g;rw[show(0:Int)+((j:Nat):Int)+1=((j+1:Nat):Int) from ω,mj _ _ (by rw[Ab];omega),<-List.map_drop] at i;refine⟨r,p2,_,_,rfl,rfl,h _ _ g,i,zf (by simp;omega),fun s y u l=>?_⟩;rw[<-Av] at l;have d:=(f.trans h).trans u;refine bb (zf ω) o hy (d _ _ c) ⟨_,bs++[s],rfl,(b.trans d).then q,za,by rw[Av];rfl,?_⟩;rw[AX e];exact Tps.upd (Tps.snoc (d.tps hb) l) (d _ _ c) (by intro xs z;cases z)
 ·rintro σ ys H3 ⟨v,bs,rfl,b,c,rfl,hb⟩
  rw[Ax (by simp)] at hb;exact k H3 bs b c hb
def ml:Sp:=fun vs H Q _=>∃a ps,vs=[.ref a]/\Tp H a ps/\ps.length<=5/\∀D H2(bs:List Addr),Same H H2->H D=none->H2 D=some (.lst (bs.map V.ref))->Tps H2 bs (rims ps)->Q (.ref D) H2
def Gv:zw ["piece"] ["piece"] (ze pH):=⟨rfl,rfl,rfl,δ,rfl,δ,δ⟩
def Gw{f:Addr}{fd:FuncData}(F:Fun K "rims_of" "rims_of" pH f fd)(B:Bt mg):FnOk P w K mg base aC 1 f fd ["piece"] ml:=by
 refine F.ok Gv (fun vs H Q E h=>?_) (fun l A outer s H vs Q E hr h=>?_)
 ·obtain⟨a,ps,rfl,_⟩:=h;rfl
 ·obtain⟨a,ps,rfl,c,j,k⟩:=h
  refine⟨_,zb (zP (zk c5 (zi zm rfl B.len dh (ac (pv 0) ai)) zg (al _)) (zd (zn (zJ ai))) zt)
   (zd (zn (zy ["piece"] ["k","piece"] [none,some 0] (iC rfl B.range (ac (zi zm rfl B.len dh (ac (pv 0) ai)) ai)) (fun d C s₀ H₀ ex=>zr (i:=0) (cK ["k","piece"]) rfl (Or.inl rfl)) (fun d C s₀ H₀ ex=>zS)
    (fun d C s₀ H₀ ex=>zz nY (j1 oI (pv 1) jZ (j0 (pv 0))) (j1 oI (pv 1) (j0 (zz fe (pv 0) zg)) jZ)) (hfr:=b9 (ze pH) δ) (te:=hX)))),?_⟩
  refine⟨_,rfl,a,_,rfl,.inr (SqT.of c),rfl,_,rfl,?_⟩;rw[Ab]
  by_cases h1:ps.length=1
  ·rw[show decide (V.int (ps.length:Int)=V.int 1)=true from decide_eq_true (by rw[h1];rfl)]
   refine aT ⟨zf (by simp),fun D b=>k D _ [] (Same.new b) b za ?_⟩;unfold rims;rw[if_pos h1];exact .nil
  ·rw[show decide (V.int (ps.length:Int)=V.int 1)=false from decide_eq_false fun z=>h1 (by injection z with z;omega)]
   refine aB ⟨_,rfl,a,_,rfl,.inr (SqT.of c),_,rfl,by rw[Ab];omega,by rw[Ab];omega,fun D b=>?_⟩;rw[Ab];refine zF (Gu c j b fun H3 bs e g hb=>k D H3 bs e b g ?_);unfold rims;rw[if_neg h1];exact hb
end
end K63
end
section
set_option maxHeartbeats 3200000
namespace STb
open PySem PySem.SetTable PyProof.Rows
def A2{c:Type}(next:Nat->Nat):∀(fuel k:Nat)(left:List c)(b:Array c),left.length=fuel->∃l,l.Perm left/\(pickOrder.go next fuel k left b).toList=b.toList++l
 |0,k,left,b,h=>⟨[],by rw[List.eq_nil_of_length_eq_zero h],by simp[pickOrder.go]⟩
 |fuel+1,k,left,b,h=>by
  have a:next k%left.length<left.length:=Nat.mod_lt _ ω;unfold pickOrder.go;rw[Af a];dsimp only;obtain⟨l,d,e⟩:=A2 next fuel (k+1) (left.eraseIdx (next k%left.length)) (b.push left[next k%left.length]) (by rw[List.length_eraseIdx,if_pos a];omega);refine⟨left[next k%left.length]::l,?_,?_⟩
  ·refine(List.Perm.cons _ d).trans ?_
   rw[List.eraseIdx_eq_take_drop_succ];refine(List.perm_middle (l₁:=left.take (next k%left.length))).symm.trans ?_;rw[<-List.drop_eq_getElem_cons a,List.take_append_drop]
  ·rw[e,Array.toList_push,List.append_assoc]
   rfl
def Gx{b:Type}(next:Nat->Nat)(xs:Array b):(pickOrder next xs).toList.Perm xs.toList:=by
 obtain⟨l,a,e⟩:=A2 next xs.size 0 xs.toList #[] (by simp);unfold pickOrder;rw[e]
 simpa using a
section
variable{prog:Program}{w:World}{K:Type}[DecidableEq K]{knd:KeyKind prog w K}{A:Around}{E:Ω}{s:Shared}
def Gy{B:List Addr}{S:Addr}{o:Obj}{es:Array (Int×Value)}{ep:Nat}{t:SetTable}{ks:List (List K)}(X:TS knd s.heap S o es ep t ks B)(hu:A.units<cLine){k:List K}{b:Addr}(hk:AJ knd s.heap k b){Q:Option Nat->Shared->Prop}(h:∀r:Option Nat,r.isSome=decide (k∈ks)->Q r s):wpAny (model prog w) A (setFind S (.ref b) (Aq knd k)) Q E s:=by
 have T:=X.tb;have j:=fits_of T;unfold setFind setFindIn;refine Aa (Bd X.at_ X.dt j ?_);dsimp only;have l:byScan (.ref b) es=false:=rfl;rw[l];simp only[Aj,if_false];obtain⟨ne,d,he,hm⟩:=yy T (Aq knd k);refine Aa ?_;unfold setSearch;refine yB X hu hk d he hm (fun e r hr=>?_) (fun f=>?_) 100000 0 none ?_ (AK _) rfl (fun m i c g=>absurd g (Nat.not_lt_zero _))
 ·exact Ac (h r (by rw[hr rfl,decide_eq_true e]))
 ·exact Ac (h none (by rw[decide_eq_false f];rfl))
 ·have:t.mask<=255:=by rcases X.msk with ⟨a,_⟩|⟨a,_⟩|⟨a,_⟩|⟨a,_⟩|⟨a,_⟩|⟨a,_⟩<;>omega
  unfold turns at d;omega
def Gz{Q:Bool->Shared->Prop}(h:Q (w.params.followText "set-order") s):wpAny (model prog w) A setsByText Q E s:=by
 unfold setsByText;exact Aa (wpAny_askSetting (Ac h))
def wp_walk{B:List Addr}{S:Addr}{o:Obj}{es:Array (Int×Value)}{ep:Nat}{t:SetTable}{ks:List (List K)}(X:TS knd s.heap S o es ep t ks B){Q:Array (Int×Value)->Shared->Prop}(h:∀r:Array (Int×Value),r.toList.Perm es.toList->Q r s):wpAny (model prog w) A (setWalk S) Q E s:=by
 have a:=fits_of X.tb;unfold setWalk;refine Aa (Bd X.at_ X.dt a ?_);dsimp only;refine Aa (Gz ?_);cases hb:w.params.followText "set-order" with
 |true=>
  simp only[if_true];exact Aa (wpAny_askSetting (Ac (h _ (Gx _ es))))
 |false=>
  have hw:t.led=true/\t.plain=true:=X.wk.resolve_left (by rw[hb];simp);simp only[Aj,if_false];show wpAny _ _ (ite ((!t.plain&&decide (es.size>1))=true) _ _) _ _ _;rw[hw.2];simp only[Bf,Bool.false_and,Aj,if_false];show wpAny _ _ ((ite ((!t.led&&decide (es.size>1))=true) _ _) >>= _) _ _ _;rw[hw.1];simp only[Bf,Bool.false_and,Aj,if_false];exact Aa (Ac (Ac (h es (List.Perm.refl _))))
def GA{B:List Addr}{S:Addr}{o:Obj}{es:Array (Int×Value)}{ep:Nat}{t:SetTable}{ks:List (List K)}(X:TS knd s.heap S o es ep t ks B){Q:Nat->Shared->Prop}(h:Q ep s):wpAny (model prog w) A (setEpoch S) Q E s:=by
 unfold setEpoch;exact Aa (Bd X.at_ X.dt (fits_of X.tb) (Ac h))
def pJ{B:List Addr}{S:Addr}{o:Obj}{es:Array (Int×Value)}{ep:Nat}{t:SetTable}{ks:List (List K)}(X:TS knd s.heap S o es ep t ks B){Q:Nat->Shared->Prop}(h:Q ks.length s):wpAny (model prog w) A (Builtin.Frozenset.sizeOf S) Q E s:=by
 unfold Builtin.Frozenset.sizeOf setEntries;refine Aa (Aa (Bd X.at_ X.dt (fits_of X.tb) (Ac (Ac ?_))));rw[X.sz];exact h
def GB{S:Addr}(hT:s.TypeIs (.ref S) "set"){Q:Bool->Shared->Prop}(h:Q true s):wpAny (model prog w) A (Builtin.Frozenset.isAnySet (.ref S)) Q E s:=by
 unfold Builtin.Frozenset.isAnySet orM;refine Aa (wpAny_isInstance hT sub_set_self ?_);exact Ac h
end
end STb
end
section
set_option maxHeartbeats 3200000
namespace STb
open PySem PySem.SetTable PyProof.Rows
def GC:∀n,n<60->5<=n->(sizeAbove (n*2)<=sizeLine)/\(sizeAbove (n*2)-1=15\/sizeAbove (n*2)-1=31\/sizeAbove (n*2)-1=63\/sizeAbove (n*2)-1=127):=δ
section
variable{prog:Program}{w:World}{K:Type}[DecidableEq K]{knd:KeyKind prog w K}{A:Around}{E:Ω}{s:Shared}
def A_{B:List Addr}{S:Addr}{o:Obj}{es:Array (Int×Value)}{ep:Nat}{t:SetTable}(X:TS knd s.heap S o es ep t ([]:List (List K)) B)(hm:t.mask=7){n:Nat}(u:n<60){Q:Unit->Shared->Prop}(h:∀h' o' g i t',TS knd h' S o' g i t' ([]:List (List K)) B->AR S s.heap h'->Q () {s with heap:=h'}):wpAny (model prog w) A (setRoomFor S n) Q E s:=by
 have T:=X.tb;have l:=fits_of T;have p:es.size=0:=X.sz;have b:t.place.size=0:=by rw[T.size,Array.size_map];exact p
 have r:t.fill=0:=by unfold SetTable.fill;rw[T.dum,b];rfl
 unfold setRoomFor;refine Aa (Bd X.at_ X.dt l ?_);dsimp only;unfold SetTable.roomFor;rw[r,b,hm,Nat.zero_add]
 by_cases q:n*5 ≥ 7*3
 ·rw[if_pos q]
  dsimp only;obtain⟨j,z2⟩:=GC n u ω;have go:∀a,sizeAbove (n*2)-1=a->ee a->a%2=1->((a=7/\es.size<=4)\/(a=31/\es.size<=18)\/(a=127/\es.size<=76)\/(a=15/\es.size<=8)\/(a=63/\es.size<=37)\/(a=255/\es.size<=152))->
    wpAny (model prog w) A (setRelay S (n*2)) Q E s:=fun a c d e f=>
   yE X.at_ X.ex X.dt T X.sz X.nd X.ad X.el X.ke c j d e ω ω f X.wk h
  rcases z2 with z|z|z|z
  ·exact go 15 z lQ rfl ω
  ·exact go 31 z iL rfl ω
  ·exact go 63 z iM rfl ω
  ·exact go 127 z fI rfl ω
 ·rw[if_neg q]
  exact Ac (h s.heap o es ep t X (Heap.SameBut.refl ..))
end
end STb
end
section
set_option maxHeartbeats 3200000
namespace STb
open PySem PySem.SetTable PyProof.Rows
section
variable{prog:Program}{w:World}{K:Type}[DecidableEq K]{knd:KeyKind prog w K}{A:Around}{E:Ω}{s:Shared}
def GD{B:List Addr}{S d:Addr}{id:String}{o l:Obj}{es:Array (Int×Value)}{a:Array DictEntry}{iG ep:Nat}{t:SetTable}(X:TS knd s.heap S o es ep t ([]:List (List K)) B)(hm:t.mask=7)(u:s.heap.get? d=some l)(e_:l.cls=.type "dict")(D:l.data=.dict a iG)(cJ:(d==AU)=false)(p:d≠S)(hu:A.units<cLine)(hv:∀k v n,knd.is k v=true->hashByValue n v=pure true){vals:List (List K)}{adr:Nat->Addr}(hn:vals.length=a.size)(hz:a.size<=59)(hB:∀i,i<a.size->adr i∈B)(aN:∀(i:Nat) e x,a[i]?=some e->vals[i]?=some x->e.key=.ref (adr i)/\e.hash=Aq knd x)(hT:∀(j:Nat) x,vals[j]?=some x->AJ knd s.heap x (adr j)){Q:Unit->Shared->Prop}(h:∀h',(∃o es ep t,TS knd h' S o es ep t (dd vals) B)->AR S s.heap h'->Q () {s with heap:=h'}):wpAny (model prog w) A (Builtin.Frozenset.updateFrom id S (.ref d)) Q E s:=by
 have f:s.TypeIs (.ref d) "dict":=⟨l,u,e_⟩;unfold Builtin.Frozenset.updateFrom Builtin.Frozenset.isAnySet orM;refine Aa (Aa (wpAny_isInstance f F.sub_dict_set ?_));refine wpAny_isInstance f F.sub_dict_frozenset ?_;simp only[Aj,if_false];refine Aa (wpAny_typeOf f ?_);rw[if_pos ξ];refine Aa (wpAny_rule ?_);unfold Builtin.Frozenset.addrOf;refine Aa (Ac ?_);rw[if_neg (by rw[cJ];exact Au)];refine Aa (wpAny_dictEpoch u D ?_);refine Aa (AH u D ?_);refine Aa (A_ X hm ω fun h1 U es1 W Y X1 J=>?_);have iz:h1.get? d=some l:=by rw[J.2 d p];exact u
 refine Aa (AH (s:={s with heap:=h1}) iz D ?_);refine Aa ?_;rw[Std.Legacy.Range.forIn_eq_forIn_range'];simp only[Std.Legacy.Range.size,Nat.sub_zero,Nat.add_sub_cancel,Nat.div_one];refine wpAny_forIn_list _
  (fun rest _ s'=>∃h' i,s'={s with heap:=h'}/\rest=List.range' i (a.size-i)/\i<=a.size/\(∃o es ep t,TS knd h' S o es ep t (dd (vals.take i)) B)/\AR S s.heap h')
  _ ?_ ?_ _ _ ⟨h1,0,rfl,by simp,AK _,⟨U,es1,W,Y,by simpa[dd] using X1⟩,J⟩
 ·rintro x rest b s' ⟨h',i,rfl,hr,hi,⟨o',bK,a_,t',X'⟩,z⟩
  have c:i<a.size:=by
   rcases Nat.lt_or_ge i a.size with h|h
   ·exact h
   ·rw[Nat.sub_eq_zero_of_le h] at hr;simp at hr
  obtain⟨rfl,bz⟩:x=i/\rest=List.range' (i+1) (a.size-(i+1)):=by
   have e:a.size-i=(a.size-(i+1))+1:=ω
   rw[e,List.range'_succ] at hr;injection hr with h1 h2
   exact⟨h1,h2⟩
  have H:h'.get? d=some l:=by rw[z.2 d p];exact u
  refine Aa (AH (s:={s with heap:=h'}) H D ?_);rw[Array.getElem?_eq_getElem c];have hx:vals[x]?=some vals[x]:=Af ω;obtain⟨q1,q2⟩:=aN x a[x] _ (by simp[c]) hx;show wpAny _ _ (holding [a[x].key] (setAddHashed S a[x].key a[x].hash) >>= _) _ _ _;rw[q1,q2];have C:=gi (vals.take x);rw[AM] at C;refine Aa (AI (yF X' hu hv (iR (hT x _ hx) X.at_ X.dt z) (hB x c) ω fun r y L M N O G bX=>?_));have T:AR S s.heap y:=z.trans bX;have iN:y.get? d=some l:=by rw[T.2 d p];exact u
  refine Aa (wpAny_dictEpoch (s:={s with heap:=y}) iN D ?_);rw[if_neg (by simp)];have g:vals.take (x+1)=vals.take x++[vals[x]]:=by rw[List.take_add_one,hx];rfl
  have X3:TS knd y S L M N O (dd (vals.take (x+1))) B:=by
   rw[g,g0]
   by_cases q:vals[x]∈dd (vals.take x)
   ·rw[if_pos q] at G ⊢;exact G
   ·rw[if_neg q] at G ⊢;exact G
  exact Ac ⟨y,x+1,rfl,bz,c,⟨L,M,N,O,X3⟩,T⟩
 ·rintro b s' ⟨h',i,rfl,hr,hi,P,z⟩
  have I:i=a.size:=by
   have e:=congrArg List.length hr;simp at e;omega
  subst I;rw[Ax ω] at P;exact Ac (h h' P z)
end
end STb
end
section
namespace STb
open PySem PySem.SetTable PyProof.Rows
section
variable{prog:Program}{w:World}{K:Type}[DecidableEq K]{knd:KeyKind prog w K}{A:Around}{E:Ω}{s:Shared}
def GE{B:List Addr}{d:Addr}{g:Obj}{a:Array DictEntry}{L:Nat}{vals:List (List K)}{adr:Nat->Addr}{Q:Ω}(u:s.heap.get? d=some g)(M:g.cls=.type "dict")(N:g.data=.dict a L)(O:(d==AU)=false)(hu:A.units+64<cLine)(P:∀k v n,knd.is k v=true->hashByValue n v=pure true)(hz:a.size<=59)(S:vals.length=a.size)(T:∀i,i<a.size->adr i∈B)(U:∀(i:Nat) e x,a[i]?=some e->vals[i]?=some x->e.key=.ref (adr i)/\e.hash=Aq knd x)(hT:∀(j:Nat) x,vals[j]?=some x->AJ knd s.heap x (adr j))(h:∀h' tk,(∃o es ep t,TS knd h' s⁻¹ o es ep t (dd vals) B)->(∀b o,b<s⁻¹->s.heap.get? b=some o->h'.get? b=some o)->Q (.ref s⁻¹) {s with heap:=h',toks:=tk}):wpAny (model prog w) A (call (.type "set") [.ref d]) Q E s:=by
 obtain⟨c,tl,X⟩:=F.called_set.mro;have Y:=F.called_set.made;have aP:=F.called_set.sub;refine wpAny_call (codeAny_of_tree ?_);show wpAny _ _ (callAny (.type "set") _) _ _ _;refine Ac ⟨Code.quiet_builtin _ δ,Bh F.entry_type_call ?_⟩;rw[Around.under_plain (weight_type_call_type "set" [.ref d] []) rfl];have h1:=F.called_set.notType;have h2:=F.called_set.canCreate;have jq:=F.typeCall_set_1 (.ref d)
 repeat(any_goals(first|assumption|wp_step))
 refine Bc (vb (.ref d) (E:=E) (Q₁:=fun obj l=>∃led:Bool,(w.params.followText "set-order"=true\/led=true)/\obj=.ref s⁻¹/\l={s with heap:=s.heap.push {cls:=.type "set",dict:=none,data:=.set #[] 0 (.fresh 0 0 led)}}) ⟨_,by cases w.params.followText "set-order" <;> simp,rfl,rfl⟩) fun r l hr=>?_;cases r with
 |error e=>exact hr
 |ok fl=>
  cases fl with
  |ret obj=>
   obtain⟨led,G,rfl,rfl⟩:=hr;have q:(s.heap.push {cls:=.type "set",dict:=none,data:=.set #[] 0 (.fresh 0 0 led)}).get? s⁻¹=some {cls:=.type "set",dict:=none,data:=.set #[] 0 (.fresh 0 0 led)}:=Ar _ rfl;have I:Shared.TypeIs {s with heap:=s.heap.push {cls:=.type "set",dict:=none,data:=.set #[] 0 (.fresh 0 0 led)}} (.ref s⁻¹) "set":=⟨_,q,rfl⟩;have jL:=F.called_set.init.lookup;have jH:=F.called_set.init.bind (.ref s⁻¹)
   repeat(any_goals(first|assumption|wp_step))
   refine Bc (codeAny_call_builtin (R:=wants (fun r p=>r=.none/\∃h' tk,p={s with heap:=h',toks:=tk}/\
     (∃o es ep t,TS knd h' s⁻¹ o es ep t (dd vals) B)/\
     (∀b o,b<s⁻¹->s.heap.get? b=some o->h'.get? b=some o)) E) F.called_set.init.plain F.entry_set_init (check_set_init_1 I ?_)) fun y p f=>?_
   ·have J:d<s⁻¹:=Ao u
    have W:TS knd (s.heap.push {cls:=.type "set",dict:=none,data:=.set #[] 0 (.fresh 0 0 led)}) s⁻¹ {cls:=.type "set",dict:=none,data:=.set #[] 0 (.fresh 0 0 led)} #[] 0 (.fresh 0 0 led) ([]:List (List K)) B:=
     ⟨q,⟨rfl,rfl,rfl⟩,rfl,(by simpa using uA 0 0 led),rfl,List.nodup_nil,fun e he=>by simp at he,fun k hk=>by simp at hk,.inl ⟨rfl,AK _⟩,(fun e he=>by simp at he),G.imp id fun z=>⟨z,rfl⟩⟩
    unfold Builtin.«set.__init__» noKeywords;generalize hPI:Builtin.Frozenset.updateFrom=PI
    wp_walk
    subst hPI;refine GD (s:={s with heap:=s.heap.push {cls:=.type "set",dict:=none,data:=.set #[] 0 (.fresh 0 0 led)}}) W rfl (Ad _ u) M N O (Ap J) (by show A.units+1+1<cLine;omega) P S hz T U
     (fun j x hx=>oB (hT j x hx) fun o e=>Ad _ e) fun h' C D=>?_
    show wpAny _ _ (ret Value.none) _ _ _;refine Ac ⟨rfl,h',s.toks,rfl,C,fun b o hb e=>?_⟩;rw[D.2 b (Ap hb)];exact Ad _ e
   ·cases y with
    |error e=>exact f
    |ok fl₂=>
     cases fl₂ with
     |ret r=>
      obtain⟨rfl,h',tk,rfl,H,hk'⟩:=f
      repeat(any_goals(first|assumption|wp_step))
      exact h _ _ H hk'
     |_=>exact f.elim
  |_=>exact hr.elim
end
def GF:entryFor table "set.__ne__"=some Builtin.«frozenset.__ne__»:=
 entryFor_alias (id':="frozenset.__ne__") (by kernel_rfl) rfl δ (by kernel_rfl)
section
variable{prog:Program}{w:World}{A:Around}{E:Ω}{s:Shared}
def Bl{S1 S2:Addr}{n m:Nat}{r:Bool}(b:s.TypeIs (.ref S1) "set")(c:s.TypeIs (.ref S2) "set")(hu:A.units+64<cLine)(h1:∀(A':Around)(Q:Nat->Shared->Prop)(a:Ω),Q n s->wpAny (model prog w) A' (Builtin.Frozenset.sizeOf S1) Q a s)(h2:∀(A':Around)(Q:Nat->Shared->Prop)(a:Ω),Q m s->wpAny (model prog w) A' (Builtin.Frozenset.sizeOf S2) Q a s)(d:n=m->∀(id:String)(A':Around)(Q:Bool->Shared->Prop)(a:Ω),A'.units<cLine->Q r s->wpAny (model prog w) A' (Builtin.Frozenset.subsetOf id S1 S2) Q a s){Q:Ω}(h:Q (.bool (!(decide (n=m)&&r))) s):wpAny (model prog w) A (Bg .NotEq (.ref S1) (.ref S2)) Q E s:=by
 show wpAny _ _ (richCompare .NotEq (.ref S1) (.ref S2)) _ _ _;refine wpAny_richCompare_same_room (op:=.NotEq) b c PySem.F.slot_set_ne (A0 PySem.F.slot_set_ne b GF ?_ (PySem.F.args_set_ne_2 _ _)) ω;unfold Builtin.«frozenset.__ne__»
 wp_delta
 refine Aa (show wpAny (model prog w) A.in1 (pure (Value.ref S1,Value.ref S2)) _ _ _ from Ac ?_);dsimp only;refine Aa (GB c ?_);simp only[Bf,Aj,if_false];unfold Builtin.Frozenset.addrOf;refine Aa (Ac (Aa (Ac ?_)));refine Aa (h1 _ _ _ ?_);refine Aa (h2 _ _ _ ?_)
 by_cases e:n=m
 ·subst e
  rw[decide_eq_true rfl,Bool.true_and] at h;simp only[bne_self_eq_false,Aj,if_false];refine Aa ?_;unfold andM;refine Aa (Aa (wpAny_isInstance b PySem.F.sub_set_frozenset ?_));refine Ac ?_;simp only[Aj,if_false];refine d rfl _ _ _ _ (by show A.units+1<cLine;omega) ?_;exact Ac ⟨_,rfl,(fun e=>nomatch e),h⟩
 ·rw[decide_eq_false e,Bool.false_and] at h
  have e':(n != m)=true:=by simpa using e
  simp only[e',if_true];exact Aa (Ac (Ac ⟨_,rfl,(fun e=>nomatch e),h⟩))
end
section
variable{prog:Program}{w:World}{K:Type}[DecidableEq K]{knd:KeyKind prog w K}
def TO(knd:KeyKind prog w K)(h:Heap)(S:Addr)(ks:List (List K))(B:List (List K×Addr)):Prop:=
 ∃o es ep t,h.get? S=some o/\o.ExactSet/\o.data=.set es ep t/\Tb t (es.map (·.1))/\es.size=ks.length/\ks.Nodup/\
  (∀e∈es.toList,∃k b,k∈ks/\(k,b)∈B/\e=(Aq knd k,Value.ref b))/\(∀k∈ks,∃b,(k,b)∈B/\(Aq knd k,Value.ref b)∈es.toList)/\
  ((t.mask=7/\es.size<=4)\/(t.mask=31/\es.size<=18)\/(t.mask=127/\es.size<=76)\/(t.mask=15/\es.size<=8)\/(t.mask=63/\es.size<=37)\/(t.mask=255/\es.size<=152))/\
  (w.params.followText "set-order"=true\/(t.led=true/\t.plain=true))
def TO.keep{h h':Heap}{S:Addr}{ks:List (List K)}{B:List (List K×Addr)}(x:TO knd h S ks B)(k:∀o,h.get? S=some o->h'.get? S=some o):TO knd h' S ks B:=
 let ⟨o,es,ep,t,h1,r⟩:=x;⟨o,es,ep,t,k o h1,r⟩
def TO.of{h:Heap}{S:Addr}{ks:List (List K)}{B:List (List K×Addr)}(x:∃o es ep t,TS knd h S o es ep t ks (B.map (·.2)))(j:∀p∈B,AJ knd h p.1 p.2):TO knd h S ks B:=by
 obtain⟨o,es,ep,t,X⟩:=x;have a:∀e∈es.toList,∀k b,e=(Aq knd k,Value.ref b)->AJ knd h k b->(k,b)∈B:=fun e he k b e1 e2=>by
  obtain⟨g,f,e3⟩:=X.ad e he;rw[e1] at e3;obtain rfl:b=g:=by simpa using e3
  obtain⟨p,hp,rfl⟩:=List.mem_map.mp f;obtain rfl:=e2.inj (j p hp);exact hp
 refine⟨o,es,ep,t,X.at_,X.ex,X.dt,X.tb,X.sz,X.nd,fun e he=>?_,fun k hk=>?_,X.msk,X.wk⟩
 ·obtain⟨k,b,c,d,i⟩:=X.el e he
  exact⟨k,b,c,a e he k b d i,d⟩
 ·obtain⟨b,c,d⟩:=X.ke k hk
  exact⟨b,a _ c k b rfl d,c⟩
def TO.ts{h:Heap}{S:Addr}{ks:List (List K)}{B:List (List K×Addr)}(x:TO knd h S ks B)(g:∀p∈B,AJ knd h p.1 p.2):∃o es ep t,TS knd h S o es ep t ks (B.map (·.2)):=by
 obtain⟨o,es,ep,t,h1,h2,i,j,l,q,f,r,s,u⟩:=x;refine⟨o,es,ep,t,h1,h2,i,j,l,q,fun e he=>?_,fun k hk=>?_,s,fun e he=>?_,u⟩
 ·obtain⟨k,b,c,a,d⟩:=f e he
  exact⟨k,b,c,d,g _ a⟩
 ·obtain⟨b,c,a⟩:=r k hk
  exact⟨b,a,g _ c⟩
 ·obtain⟨k,b,c,a,d⟩:=f e he
  exact⟨b,List.mem_map.mpr ⟨_,a,rfl⟩,by rw[d]⟩
end
end STb
namespace L2
open PySem PySem.Spec PyProof.Rows
def cU(P:Program)(w:World)(D:Addr)(ks:Ξ)(B:List (List Int×Addr)):HO:=.ext fun h=>STb.TO (intKind P w) h D ks B
def TB(H:Hp)(B:List (List Int×Addr)):Prop:=∀p∈B,Tp H p.2 p.1
def TB.mono{H H':Hp}{B:List (List Int×Addr)}(h:TB H B)(e:Same H H'):TB H' B:=fun p hp=>e.tp (h p hp)
def TB.zip{H:Hp}{as:List Addr}{pss:Ξ}(h:Tps H as pss):TB H (pss.zip as):=by
 induction h with
 |nil=>intro p hp;simp at hp
 |cons q t ih=>
  intro p hp;rw[List.zip_cons_cons] at hp;rcases List.mem_cons.mp hp with rfl|hp
  ·exact q
  ·exact ih p hp
section
variable{X:Cx}
def TB.keys{aa:Ψ}{s:Shared}{σ:St}{H:Hp}{B:List (List Int×Addr)}(h:TB H B)(I:Inv X aa σ H s):∀p∈B,AJ (intKind X.prog X.w) s.heap p.1 p.2:=fun p hp=>by
 obtain⟨b,a,p2,_⟩:=I.tuple (SqT.of (K:=X.K) (h p hp));exact vf p2 (intsAre_of a)
def Bm{P:Program}{w:World}{H:Hp}{h:Heap}{D:Addr}{ks:Ξ}{B:List (List Int×Addr)}(x:STb.TO (intKind P w) h D ks B):zC P w H h D (cU P w D ks B):=
 ⟨x,(let ⟨o,_,_,_,h1,_⟩:=x;⟨o,h1⟩),fun h1 h2 y a=>y.keep fun o e=>a o e⟩
def Bn{aa:Ψ}{s:Shared}{σ:St}{H:Hp}{D:Addr}{ks:Ξ}{B:List (List Int×Addr)}(I:Inv X aa σ H s)(e:H D=some (cU X.prog X.w D ks B)):STb.TO (intKind X.prog X.w) s.heap D ks B:=
 (show zC X.prog X.w H s.heap D (cU X.prog X.w D ks B) from I.hok D _ e).1
def GG(hc:X.calm=true)(hu:X.A.units+64<cLine):bU X (.type "set") (fun xs H Q=>∃(l:Addr)(as:List Addr)(pss:Ξ),xs=[.ref l]/\SqL X.K H l (as.map V.ref)/\Tps H as pss/\pss.length<=59/\
  ∀D,H D=none->Q (.ref D) (upd H D (cU X.prog X.w D (STb.dd pss) (pss.zip as)))):=by
 intro aa s σ H xs us Q I r h;obtain⟨l,as,pss,rfl,hq,hp,hz,q⟩:=h;obtain⟨u,rfl,g⟩:=vals1 r;cases g;obtain⟨G,y,z,_⟩:=I.list hq;obtain rfl:=aD y;have C:=hp.length;have f:=(TB.zip hp).keys I;have E:(pss.zip as).map (·.2)=as:=by rw[List.map_snd_zip ω]
 refine STb.yG (B:=as) (knd:=intKind X.prog X.w) (vals:=pss) (adr:=fun i=>as.getD i 0) (I.ok.hd hc) z.isList hu vc (by rw[Ai,Ab];omega) (by rw[Ai,Ab];omega) (fun i hi=>by rw[Ai,Ab] at hi;rw[AL,Af hi];exact A1 hi)
  (fun i v e=>?_) (fun j x e=>?_) fun h' tk T d=>?_
 ·have e':(as.map Value.ref)[i]?=some v:=by simpa using e
  rw[Ak] at e';cases c:as[i]? with
  |none=>rw[c] at e';simp at e'
  |some a=>
   rw[c] at e';rw[<-Al e',AL,c]
   rfl
 ·have F:j<as.length:=by rw[C];exact(List.getElem?_eq_some_iff.mp e).1
  have c:as[j]?=some as[j]:=Af F;rw[AL,c];refine f (x,as[j]) (An (i:=j) ?_);rw[List.getElem?_zip_eq_some];exact⟨e,c⟩
 ·refine⟨.ref s⁻¹,_,I.laid (o:=cU X.prog X.w s⁻¹ (STb.dd pss) (pss.zip as)) (fun b u e=>d b u (Ao e) e) (Ah _) (Bm (STb.TO.of (by rw[E];exact T) fun p hp=>?_)),rfl,q _ (I.hok.fresh (Ah _))⟩
  exact STb.oB (f p hp) fun o e=>d _ o (Ao e) e
end
end L2
end
section
namespace L2
open PySem PySem.Spec PyProof.Rows
def vV{P:Program}{w:World}(ps:List Int):Aq (zo P w) (ps.map Sum.inl)=Aq (intKind P w) ps:=by
 unfold Aq;rw[Am]
 rfl
section
variable{X:Cx}
def GH(hu:X.A.units+64<cLine):bU X (.type "set") (fun xs H Q=>∃(a:Addr)(kvs:List (List Key×V))(pss:Ξ),xs=[.ref a]/\Rd H a (.dT kvs)/\kvs.map (·.1)=pss.map (·.map Sum.inl)/\pss.length<=59/\
  ∀B,TB H B->∀D,H D=none->Q (.ref D) (upd H D (cU X.prog X.w D (STb.dd pss) B))):=by
 intro aa s σ H xs us Q I r h;obtain⟨a,kvs,pss,rfl,hq,hp,hz,q⟩:=h;obtain⟨u,rfl,F⟩:=vals1 r;cases F;obtain⟨z,y,ys,c,o,es,ep,h1,h2,G,g,P⟩:=(show zC X.prog X.w H s.heap a (.dT kvs) from hq.ok I.hok);have J:kvs.length=ys.length:=A7 c;have d:kvs.length=pss.length:=by simpa using congrArg List.length hp
 have L:es.size=ys.length:=by
  have:=congrArg List.length g;rw[Ab] at this
  simpa using this
 have tps:Tps H (ys.map (·.2.1)) pss:=by
  have:∀{l:List (List Key×V)}{m:List (List Key×Addr×Value)}{pss:Ξ},KT H l m->l.map (·.1)=pss.map (·.map Sum.inl)->Tps H (m.map (·.2.1)) pss:=by
   intro l m pss q
   induction q generalizing pss with
   |nil=>intro e;cases pss with
    |nil=>exact .nil
    |cons p ps=>simp at e
   |cons hq t ih=>intro e;cases pss with
    |nil=>simp at e
    |cons p ps=>
     simp only[AE,List.cons.injEq] at e;refine .cons ?_ (ih e.2);have:=hq.2.1;rw[e.1,Am] at this;exact this
  exact this c hp
 have M:ys.map (·.1)=pss.map (·.map Sum.inl):=by
  rw[<-hp];have:∀{l:List (List Key×V)}{m:List (List Key×Addr×Value)},KT H l m->m.map (·.1)=l.map (·.1):=by
   intro l m q
   induction q with
   |nil=>rfl
   |cons hq t ih=>rw[AE,AE,ih,hq.1]
  exact this c
 have v:=TB.zip tps;have C:=v.keys I;have N:(pss.zip (ys.map (·.2.1))).map (·.2)=ys.map (·.2.1):=by rw[List.map_snd_zip (by rw[Ab];omega)]
 refine STb.GE (B:=ys.map (·.2.1)) (knd:=intKind X.prog X.w) (vals:=pss) (adr:=fun i=>(ys.map (·.2.1)).getD i 0) h1 h2.1 G y hu vc ω ω (fun i hi=>by rw[AL,Af (by rw[Ab];omega)];exact A1 _)
  (fun i e x e1 e2=>?_) (fun j x e=>?_) fun h' tk T f=>?_
 ·have hi:i<ys.length:=by rw[<-L];exact(Array.getElem?_eq_some_iff.mp e1).1
  have g3:es.toList[i]?=some e:=by simpa using e1
  have g4:ys[i]?=some ys[i]:=Af hi;rw[g,Ak,g4] at g3;simp only[Option.map_some,Option.some.injEq] at g3;have g5:=congrArg (·[i]?) M;simp only[Ak,g4,e2,Option.map_some,Option.some.injEq] at g5;rw[<-g3,AL,Ak,g4];refine⟨rfl,?_⟩;show Aq (zo X.prog X.w) ys[i].1=_;rw[g5,vV]
 ·have O:j<(ys.map (·.2.1)).length:=by rw[Ab,<-J,d];exact(List.getElem?_eq_some_iff.mp e).1
  have E:(ys.map (·.2.1))[j]?=some (ys.map (·.2.1))[j]:=Af O;rw[AL,E];refine C (x,(ys.map (·.2.1))[j]) (An (i:=j) ?_);rw[List.getElem?_zip_eq_some];exact⟨e,E⟩
 ·refine⟨.ref s⁻¹,_,I.laid (o:=cU X.prog X.w s⁻¹ (STb.dd pss) (pss.zip (ys.map (·.2.1)))) (fun b u e=>f b u (Ao e) e) (Ah _) (Bm (STb.TO.of (by rw[N];exact T) fun p hp=>?_)),rfl,q _ v _ (I.hok.fresh (Ah _))⟩
  exact STb.oB (C p hp) fun o e=>f _ o (Ao e) e
end
end L2
end
section
namespace STb
def GI(ns:List Int):∀i,i<=ns.length->PyProof.Rows.firstMet (fun i=>ns.getD i 0) i=dd (ns.take i):=by
 intro i
 induction i with
 |zero=>intro _;simp[PyProof.Rows.firstMet,dd]
 |succ i ih=>
  intro hi;have hx:ns[i]?=some ns[i]:=Af ω;have a:ns.take (i+1)=ns.take i++[ns[i]]:=by rw[List.take_add_one,hx];rfl
  rw[PyProof.Rows.firstMet_succ,ih ω,a,g0];have b:ns.getD i 0=ns[i]:=by rw[AL,hx];rfl
  rw[b];unfold PyProof.Rows.step_dedup
  by_cases q:ns[i]∈dd (ns.take i)
  ·rw[if_pos q];simp[q]
  ·rw[if_neg q];simp[q]
def iZ{a:Type}[DecidableEq a](l:List a)(x:a):x∈dd l↔x∈l:=by
 suffices ∀(n:Nat),x∈dd (l.take n)↔x∈l.take n by simpa using this l.length
 intro n
 induction n with
 |zero=>simp[dd]
 |succ n ih=>
  rw[List.take_add_one];cases e:l[n]? with
  |none=>simpa[e] using ih
  |some y=>
   show x∈dd (l.take n++[y])↔x∈l.take n++[y];rw[g0]
   by_cases q:y∈dd (l.take n)
   ·rw[if_pos q,List.mem_append,List.mem_singleton,ih]
    exact⟨.inl,fun z=>z.elim id fun z=>by
     subst z;exact ih.mp q⟩
   ·rw[if_neg q,List.mem_append,List.mem_append,ih]
def vW{c:Type}[DecidableEq c](l:List c):(dd l).Nodup:=by
 suffices ∀(n:Nat),(dd (l.take n)).Nodup by simpa using this l.length
 intro n
 induction n with
 |zero=>simp[dd]
 |succ n ih=>
  rw[List.take_add_one];cases e:l[n]? with
  |none=>simpa[e] using ih
  |some y=>
   show(dd (l.take n++[y])).Nodup;rw[g0]
   by_cases q:y∈dd (l.take n)
   ·rw[if_pos q];exact ih
   ·rw[if_neg q,List.nodup_append]
    refine⟨ih,by simp,fun a d b hb=>?_⟩;rw[List.mem_singleton.mp hb];exact fun z=>q (z▸d)
end STb
namespace L2
open PySem PySem.Spec PyProof.Rows
end L2
end
section
namespace STb
open PySem PySem.SetTable PyProof.Rows
section
variable{prog:Program}{w:World}{A:Around}{E:Ω}{s:Shared}
def Bo{S1 S2:Addr}{es1 es2:Array (Int×Value)}(h1:∀(c:Around)(Q:Array (Int×Value)->Shared->Prop)(d:Ω),Q es1 s->wpAny (model prog w) c (setEntries S1) Q d s)(h2:∀(c:Around)(Q:Array (Int×Value)->Shared->Prop)(d:Ω),Q es2 s->wpAny (model prog w) c (setEntries S2) Q d s)(hq:∀e∈es1.toList++es2.toList,∃b,(b=false->∃a,e.2=.ref a)/\∀(c:Around)(Q:Bool->Shared->Prop)(d:Ω),Q b s->wpAny (model prog w) c (Builtin.Frozenset.quietEq e.2) Q d s)(hw:∀(c:Around)(Q:Array (Int×Value)->Shared->Prop)(d:Ω),(∀r:Array (Int×Value),r.toList.Perm es1.toList->Q r s)->(∃e∈es1.toList++es2.toList,∃a,e.2=.ref a)->wpAny (model prog w) c (setWalk S1) Q d s){Q:List (Int×Value)->Shared->Prop}(h:∀l:List (Int×Value),l.Perm es1.toList->Q l s):wpAny (model prog w) A (Builtin.Frozenset.walkUnseen S1 S2) Q E s:=by
 unfold Builtin.Frozenset.walkUnseen;refine Aa (h1 _ _ _ ?_);refine Aa (h2 _ _ _ ?_);refine Aa (A9 (wpAny_forIn_list _ (fun rest b s'=>b=(none,())/\s'=s/\∀e∈rest,e∈es1.toList++es2.toList) (fun b s'=>s'=s/\(b=(none,())\/∃l,b=(some l,())/\l.Perm es1.toList)) ?_ ?_ _ _ ⟨rfl,rfl,fun e he=>he⟩) ?_ fun _ _ e=>e)
 ·rintro⟨i,x⟩ rest b s' ⟨rfl,rfl,hr⟩
  obtain⟨b,hf,hb⟩:=hq (i,x) (hr _ AB);dsimp only;cases b with
  |true=>
   refine Aa (hb _ _ _ ?_);simp only[Bf,Aj,if_false];exact Ac ⟨rfl,rfl,fun e he=>hr e (Ay _ he)⟩
  |false=>
   have f:∃a,x=.ref a:=hf rfl;refine Aa (hb _ _ _ ?_);simp only[Bool.not_false,if_true];unfold Builtin.Frozenset.walk;refine Aa (Aa (hw _ _ _ (fun r g=>?_) ⟨_,hr _ AB,f⟩));exact Ac (Ac ⟨rfl,.inr ⟨_,rfl,g⟩⟩)
 ·rintro b s' ⟨rfl,rfl,_⟩
  exact⟨rfl,.inl rfl⟩
 ·rintro⟨o,⟨⟩⟩ s' ⟨rfl,hb⟩
  rcases hb with e|⟨l,e,hp⟩
  ·cases e
   exact Ac (h _ (List.Perm.refl _))
  ·cases e
   exact Ac (h _ hp)
def Bp{S1 S2:Addr}{id:String}{es1:Array (Int×Value)}{n m ep:Nat}{g:Int×Value->Bool}(v:n=m)(h1:∀(f:Around)(Q:Nat->Shared->Prop)(c:Ω),Q n s->wpAny (model prog w) f (Builtin.Frozenset.sizeOf S1) Q c s)(h2:∀(f:Around)(Q:Nat->Shared->Prop)(c:Ω),Q m s->wpAny (model prog w) f (Builtin.Frozenset.sizeOf S2) Q c s)(he:∀(f:Around)(Q:Nat->Shared->Prop)(c:Ω),Q ep s->wpAny (model prog w) f (setEpoch S1) Q c s)(hw:∀(f:Around)(Q:List (Int×Value)->Shared->Prop)(c:Ω),(∀l:List (Int×Value),l.Perm es1.toList->Q l s)->wpAny (model prog w) f (Builtin.Frozenset.walkUnseen S1 S2) Q c s)(hf:∀e∈es1.toList,∀(Q:Option Nat->Shared->Prop)(c:Ω),(∀r:Option Nat,r.isSome=g e->Q r s)->wpAny (model prog w) A (setFind S2 e.2 e.1) Q c s){Q:Bool->Shared->Prop}(h:Q (es1.toList.all g) s):wpAny (model prog w) A (Builtin.Frozenset.subsetOf id S1 S2) Q E s:=by
 unfold Builtin.Frozenset.subsetOf;refine Aa (h1 _ _ _ ?_);refine Aa (h2 _ _ _ ?_);rw[if_neg ω];refine Aa (he _ _ _ ?_);refine Aa (hw _ _ _ fun l p=>?_);have i:l.all g=es1.toList.all g:=by
  rw[Bool.eq_iff_iff,List.all_eq_true,List.all_eq_true];exact⟨fun a x hx=>a x (p.mem_iff.mpr hx),fun a x hx=>a x (p.mem_iff.mp hx)⟩
 rw[<-i] at h;refine Aa (A9 (wpAny_forIn_list _ (fun rest b s'=>b=(none,())/\s'=s/\(∀e∈rest,e∈es1.toList)/\l.all g=rest.all g) (fun b s'=>s'=s/\((b=(none,())/\l.all g=true)\/(b=(some false,())/\l.all g=false))) ?_ ?_ _ _ ⟨rfl,rfl,fun e he=>p.mem_iff.mp he,rfl⟩) ?_ fun _ _ e=>e)
 ·rintro⟨u,x⟩ rest b s' ⟨rfl,rfl,hr,d⟩
  dsimp only;refine Aa (AI (hf (u,x) (hr _ AB) _ _ fun r q=>?_));cases r with
  |none=>
   simp only[Option.isNone_none,if_true];refine Ac ⟨rfl,.inr ⟨rfl,?_⟩⟩;rw[d,List.all_cons,<-q];rfl
  |some j=>
   simp only[Option.isNone_some,Aj,if_false];unfold Builtin.Frozenset.unchanged;refine Aa (Aa (he _ _ _ ?_));simp only[bne_self_eq_false,Aj,if_false];refine Ac (Ac ⟨rfl,rfl,fun e he=>hr e (Ay _ he),?_⟩);rw[d,List.all_cons,<-q];rfl
 ·rintro b s' ⟨rfl,rfl,_,d⟩
  exact⟨rfl,.inl ⟨rfl,d⟩⟩
 ·rintro⟨o,⟨⟩⟩ s' ⟨rfl,hb⟩
  rcases hb with ⟨e,d⟩|⟨e,d⟩
  ·cases e
   rw[d] at h;exact Ac h
  ·cases e
   rw[d] at h;exact Ac h
def jP{S:Addr}{o:Obj}{es:Array (Int×Value)}{ep:Nat}{t:SetTable}(a:s.heap.get? S=some o)(hd:o.data=.set es ep t)(hf:t.fits es.size=true){Q:Array (Int×Value)->Shared->Prop}(h:Q es s):wpAny (model prog w) A (setEntries S) Q E s:=by
 unfold setEntries;exact Aa (Bd a hd hf (Ac h))
def pM{S:Addr}{o:Obj}{es:Array (Int×Value)}{ep:Nat}{t:SetTable}(a:s.heap.get? S=some o)(hd:o.data=.set es ep t)(hf:t.fits es.size=true){Q:Nat->Shared->Prop}(h:Q es.size s):wpAny (model prog w) A (Builtin.Frozenset.sizeOf S) Q E s:=by
 unfold Builtin.Frozenset.sizeOf;exact Aa (jP a hd hf (Ac h))
def GJ{S:Addr}{o:Obj}{es:Array (Int×Value)}{ep:Nat}{t:SetTable}(a:s.heap.get? S=some o)(hd:o.data=.set es ep t)(hf:t.fits es.size=true){Q:Nat->Shared->Prop}(h:Q ep s):wpAny (model prog w) A (setEpoch S) Q E s:=by
 unfold setEpoch;exact Aa (Bd a hd hf (Ac h))
variable{K:Type}[DecidableEq K]{knd:KeyKind prog w K}
def GK{W X:List Addr}{S1 S2:Addr}{f d:List (List K)}{D G:Obj}{es1 es2:Array (Int×Value)}{O P:Nat}{S U:SetTable}(X1:TS knd s.heap S1 D es1 O S f W)(X2:TS knd s.heap S2 G es2 P U d X)(hu:A.units+64<cLine){Q:Ω}(h:Q (.bool (!(decide (f.length=d.length)&&decide (∀k∈f,k∈d)))) s):wpAny (model prog w) A (Bg .NotEq (.ref S1) (.ref S2)) Q E s:=by
 have f1:=fits_of X1.tb;have f2:=fits_of X2.tb;refine Bl (n:=f.length) (m:=d.length) (r:=decide (∀k∈f,k∈d)) ⟨D,X1.at_,X1.ex.1⟩ ⟨G,X2.at_,X2.ex.1⟩ hu (fun H I J h'=>pJ X1 h') (fun H I J h'=>pJ X2 h') (fun L id H I J M h'=>?_) h;have key:∀e∈es1.toList,∃k b,k∈f/\e=(Aq knd k,Value.ref b)/\AJ knd s.heap k b:=X1.el
 classical
 let kk:Int×Value->Bool:=fun e=>if ∃k b,k∈f/\k∈d/\e=(Aq knd k,Value.ref b)/\AJ knd s.heap k b then true else false
 have j:∀{k i:List K}{b:Addr},AJ knd s.heap k b->AJ knd s.heap i b->k=i:=fun a b=>IsTupleKey.inj a b;refine Bp (es1:=es1) (g:=kk) L (fun C q u h2=>pJ X1 h2) (fun C q u h2=>pJ X2 h2) (fun C q u h2=>GA X1 h2)
  (fun C q u h2=>Bo (es1:=es1) (es2:=es2) (fun _ _ _ c=>jP X1.at_ X1.dt f1 c) (fun _ _ _ c=>jP X2.at_ X2.dt f2 c) (fun e he=>?_) (fun _ _ _ c _=>wp_walk X1 c) h2) (fun e he q u h2=>?_) ?_
 ·have:∃k b,e=(Aq knd k,Value.ref b)/\AJ knd s.heap k b:=by
   rcases List.mem_append.mp he with z|z
   ·obtain⟨k,b,_,v,x⟩:=X1.el e z;exact⟨k,b,v,x⟩
   ·obtain⟨k,b,_,v,x⟩:=X2.el e z;exact⟨k,b,v,x⟩
  obtain⟨k,b,rfl,o,Y,n,N,hc,_⟩:=this;refine⟨false,fun _=>⟨b,rfl⟩,fun A3 Q3 E3 c=>?_⟩;unfold Builtin.Frozenset.quietEq;dsimp only;refine Aa (wpAny_specialOf (T:="tuple") ⟨o,N,hc⟩ F.slot_tuple_eq.lookup ?_);exact Ac c
 ·obtain⟨k,b,hk,rfl,l⟩:=key e he
  refine Gy X2 M l fun r hr=>h2 r ?_;rw[hr];show decide (k∈d)=kk _
  by_cases z:k∈d
  ·rw[decide_eq_true z]
   exact(if_pos ⟨k,b,hk,z,rfl,l⟩).symm
  ·rw[decide_eq_false z]
   refine(if_neg ?_).symm;rintro⟨i,p,_,y,e2,c⟩;obtain⟨_,e3⟩:=Prod.mk.inj e2;cases e3;rw[j l c] at z;exact z y
 ·have e:es1.toList.all kk=decide (∀k∈f,k∈d):=by
   rw[Bool.eq_iff_iff,List.all_eq_true,decide_eq_true_eq];constructor
   ·intro a k hk
    obtain⟨b,hb,l⟩:=X1.ke k hk;have:=a _ hb
    by_cases z:∃i p,i∈f/\i∈d/\(Aq knd k,Value.ref b)=(Aq knd i,Value.ref p)/\AJ knd s.heap i p
    ·obtain⟨i,p,_,y,e2,c⟩:=z
     obtain⟨_,e3⟩:=Prod.mk.inj e2;cases e3;rw[j l c];exact y
    ·exact absurd ((if_neg z).symm.trans this) (by simp)
   ·intro a e he
    obtain⟨k,b,hk,rfl,l⟩:=key e he;exact if_pos ⟨k,b,hk,a k hk,rfl,l⟩
  rw[e];exact h'
end
end STb
end
section
namespace STb
open PySem PySem.SetTable PyProof.Rows aF PySem.W
end STb
namespace L2
open PySem PySem.Spec PyProof.Rows
section
variable{X:Cx}
abbrev dZ(ps:List (Int×V)):HO:=.dK (ps.map fun p=>(Sum.inl p.1,p.2))
end
end L2
end
section
namespace STb
open PySem PySem.SetTable PyProof.Rows
section
variable{prog:Program}{w:World}{K:Type}[DecidableEq K]{knd:KeyKind prog w K}{A:Around}{E:Ω}{s:Shared}
def GL{B:List Addr}{S d:Addr}{id:String}{o j:Obj}{es:Array (Int×Value)}{a:Array DictEntry}{iG ep:Nat}{t:SetTable}(X:TS knd s.heap S o es ep t ([]:List (List K)) B)(hm:t.mask=7)(p:s.heap.get? d=some j)(e_:j.cls=.type "dict")(r:j.data=.dict a iG)(cJ:(d==AU)=false)(l:d≠S)(hu:A.units<cLine){vals:List Int}(nd:vals.Nodup)(hn:vals.length=a.size)(hz:a.size<=59)(aN:∀(i:Nat) e x,a[i]?=some e->vals[i]?=some x->(∃t,e.key=.int x t)/\e.hash=(intKind prog w).hash x){Q:Unit->Shared->Prop}(h:∀h',h'.SetOf (intKind prog w) S (fun k=>decide (k∈vals)) vals.length->AR S s.heap h'->Q () {s with heap:=h'}):wpAny (model prog w) A (Builtin.Frozenset.updateFrom id S (.ref d)) Q E s:=by
 have c:s.TypeIs (.ref d) "dict":=⟨j,p,e_⟩;unfold Builtin.Frozenset.updateFrom Builtin.Frozenset.isAnySet orM;refine Aa (Aa (wpAny_isInstance c F.sub_dict_set ?_));refine wpAny_isInstance c F.sub_dict_frozenset ?_;simp only[Aj,if_false];refine Aa (wpAny_typeOf c ?_);rw[if_pos ξ];refine Aa (wpAny_rule ?_);unfold Builtin.Frozenset.addrOf;refine Aa (Ac ?_);rw[if_neg (by rw[cJ];exact Au)];refine Aa (wpAny_dictEpoch p r ?_);refine Aa (AH p r ?_);refine Aa (A_ X hm ω fun h1 M es1 N O X1 H=>?_);have v:es1=#[]:=Array.eq_empty_of_size_eq_zero (by have:=X1.sz;simpa using this);have W:h1.get? d=some j:=by rw[H.2 d l];exact p
 refine Aa (AH (s:={s with heap:=h1}) W r ?_);refine Aa ?_;rw[Std.Legacy.Range.forIn_eq_forIn_range'];simp only[Std.Legacy.Range.size,Nat.sub_zero,Nat.add_sub_cancel,Nat.div_one];refine wpAny_forIn_list _
  (fun rest _ s'=>∃h' i,s'={s with heap:=h'}/\rest=List.range' i (a.size-i)/\i<=a.size/\h'.SetOf (intKind prog w) S (fun k=>decide (k∈vals.take i)) i/\AR S s.heap h')
  _ ?_ ?_ _ _ ⟨h1,0,rfl,by simp,AK _,⟨M,es1,N,O,X1.at_,X1.ex,X1.dt,(by rw[v];intro e he;simp at he),(fun k=>by rw[v];simp),(by rw[v];decide),fits_of X1.tb,by rw[v];rfl⟩,H⟩
 ·rintro x rest b s' ⟨h',i,rfl,hr,hi,X',u⟩
  have f:i<a.size:=by
   rcases Nat.lt_or_ge i a.size with h|h
   ·exact h
   ·rw[Nat.sub_eq_zero_of_le h] at hr;simp at hr
  obtain⟨rfl,T⟩:x=i/\rest=List.range' (i+1) (a.size-(i+1)):=by
   have e:a.size-i=(a.size-(i+1))+1:=ω
   rw[e,List.range'_succ] at hr;injection hr with h1 h2
   exact⟨h1,h2⟩
  have D:h'.get? d=some j:=by rw[u.2 d l];exact p
  refine Aa (AH (s:={s with heap:=h'}) D r ?_);rw[Array.getElem?_eq_getElem f];have hx:vals[x]?=some vals[x]:=Af ω;obtain⟨C,U⟩:=aN x a[x] _ (by simp[f]) hx;show wpAny _ _ (holding [a[x].key] (setAddHashed S a[x].key a[x].hash) >>= _) _ _ _;obtain⟨tk,C⟩:=C;rw[C,U];have Y:vals[x]∉vals.take x:=fun hm=>by
   obtain⟨y,hy,e⟩:=List.mem_take_iff_getElem.mp hm;have:=(List.getElem_inj nd).mp e;omega
  refine Aa (AI (wpAny_setAddHashed_of (s:={s with heap:=h'}) (k:=vals[x]) (intKind_is _ _ _ _) rfl X' (by unfold scanBound;omega) fun q P L=>?_));rw[if_neg (by simpa using Y)] at L;have J:AR S s.heap q:=u.trans P;have iN:q.get? d=some j:=by rw[J.2 d l];exact p
  refine Aa (wpAny_dictEpoch (s:={s with heap:=q}) iN r ?_);rw[if_neg (by simp)];have g:vals.take (x+1)=vals.take x++[vals[x]]:=by rw[List.take_add_one,hx];rfl
  have X3:q.SetOf (intKind prog w) S (fun k=>decide (k∈vals.take (x+1))) (x+1):=by
   have e:(fun z=>decide (z∈vals.take x)|| decide (z=vals[x]))=fun k=>decide (k∈vals.take (x+1)):=by
    funext z
    rw[Bool.eq_iff_iff,Bool.or_eq_true,decide_eq_true_eq,decide_eq_true_eq,decide_eq_true_eq,g,List.mem_append,List.mem_singleton]
   rw[<-e];exact L
  exact Ac ⟨q,x+1,rfl,T,f,X3,J⟩
 ·rintro b s' ⟨h',i,rfl,hr,hi,I,u⟩
  have G:i=a.size:=by
   have e:=congrArg List.length hr;simp at e;omega
  subst G;rw[Ax ω,<-hn] at I;exact Ac (h h' I u)
def GM{d:Addr}{g:Obj}{a:Array DictEntry}{I:Nat}{vals:List Int}{Q:Ω}(q:s.heap.get? d=some g)(J:g.cls=.type "dict")(L:g.data=.dict a I)(M:(d==AU)=false)(hu:A.units+64<cLine)(N:vals.Nodup)(hz:a.size<=59)(O:vals.length=a.size)(P:∀(i:Nat) e x,a[i]?=some e->vals[i]?=some x->(∃t,e.key=.int x t)/\e.hash=(intKind prog w).hash x)(h:∀h' tk,h'.SetOf (intKind prog w) s⁻¹ (fun k=>decide (k∈vals)) vals.length->(∀b o,b<s⁻¹->s.heap.get? b=some o->h'.get? b=some o)->Q (.ref s⁻¹) {s with heap:=h',toks:=tk}):wpAny (model prog w) A (call (.type "set") [.ref d]) Q E s:=by
 obtain⟨c,tl,T⟩:=F.called_set.mro;have U:=F.called_set.made;have W:=F.called_set.sub;refine wpAny_call (codeAny_of_tree ?_);show wpAny _ _ (callAny (.type "set") _) _ _ _;refine Ac ⟨Code.quiet_builtin _ δ,Bh F.entry_type_call ?_⟩;rw[Around.under_plain (weight_type_call_type "set" [.ref d] []) rfl];have h1:=F.called_set.notType;have h2:=F.called_set.canCreate;have X:=F.typeCall_set_1 (.ref d)
 repeat(any_goals(first|assumption|wp_step))
 refine Bc (vb (.ref d) (E:=E) (Q₁:=fun obj j=>∃led:Bool,(w.params.followText "set-order"=true\/led=true)/\obj=.ref s⁻¹/\j={s with heap:=s.heap.push {cls:=.type "set",dict:=none,data:=.set #[] 0 (.fresh 0 0 led)}}) ⟨_,by cases w.params.followText "set-order" <;> simp,rfl,rfl⟩) fun r j hr=>?_;cases r with
 |error e=>exact hr
 |ok fl=>
  cases fl with
  |ret obj=>
   obtain⟨led,C,rfl,rfl⟩:=hr;have p:(s.heap.push {cls:=.type "set",dict:=none,data:=.set #[] 0 (.fresh 0 0 led)}).get? s⁻¹=some {cls:=.type "set",dict:=none,data:=.set #[] 0 (.fresh 0 0 led)}:=Ar _ rfl;have G:Shared.TypeIs {s with heap:=s.heap.push {cls:=.type "set",dict:=none,data:=.set #[] 0 (.fresh 0 0 led)}} (.ref s⁻¹) "set":=⟨_,p,rfl⟩;have Y:=F.called_set.init.lookup;have jH:=F.called_set.init.bind (.ref s⁻¹)
   repeat(any_goals(first|assumption|wp_step))
   refine Bc (codeAny_call_builtin (R:=wants (fun r l=>r=.none/\∃h' tk,l={s with heap:=h',toks:=tk}/\
     h'.SetOf (intKind prog w) s⁻¹ (fun k=>decide (k∈vals)) vals.length/\
     (∀b o,b<s⁻¹->s.heap.get? b=some o->h'.get? b=some o)) E) F.called_set.init.plain F.entry_set_init (check_set_init_1 G ?_)) fun u l f=>?_
   ·have H:d<s⁻¹:=Ao q
    have S:TS (intKind prog w) (s.heap.push {cls:=.type "set",dict:=none,data:=.set #[] 0 (.fresh 0 0 led)}) s⁻¹ {cls:=.type "set",dict:=none,data:=.set #[] 0 (.fresh 0 0 led)} #[] 0 (.fresh 0 0 led) ([]:Ξ) ([]:List Addr):=
     ⟨p,⟨rfl,rfl,rfl⟩,rfl,(by simpa using uA 0 0 led),rfl,List.nodup_nil,fun e he=>by simp at he,fun k hk=>by simp at hk,.inl ⟨rfl,AK _⟩,(fun e he=>by simp at he),C.imp id fun z=>⟨z,rfl⟩⟩
    unfold Builtin.«set.__init__» noKeywords;generalize hPI:Builtin.Frozenset.updateFrom=PI
    wp_walk
    subst hPI;refine GL (knd:=intKind prog w) (s:={s with heap:=s.heap.push {cls:=.type "set",dict:=none,data:=.set #[] 0 (.fresh 0 0 led)}}) S rfl (Ad _ q) J L M (Ap H) (by show A.units+1+1<cLine;omega) N O hz P fun h' v y=>?_;show wpAny _ _ (ret Value.none) _ _ _;refine Ac ⟨rfl,h',s.toks,rfl,v,fun b o hb e=>?_⟩;rw[y.2 b (Ap hb)];exact Ad _ e
   ·cases u with
    |error e=>exact f
    |ok fl₂=>
     cases fl₂ with
     |ret r=>
      obtain⟨rfl,h',tk,rfl,D,hk'⟩:=f
      repeat(any_goals(first|assumption|wp_step))
      exact h _ _ D hk'
     |_=>exact f.elim
  |_=>exact hr.elim
def GN{S1 S2:Addr}{F q:Int->Bool}{n1 n2:Nat}(U:s.heap.SetOf (intKind prog w) S1 F n1)(I:s.heap.SetOf (intKind prog w) S2 q n2)(hu:A.units+64<cLine){r:Bool}(hr:r=true↔∀k,F k=true->q k=true){Q:Ω}(h:Q (.bool (!(decide (n1=n2)&&r))) s):wpAny (model prog w) A (Bg .NotEq (.ref S1) (.ref S2)) Q E s:=by
 obtain⟨M,es1,N,X,d,O,l,f,C,Y,o,rfl⟩:=id U;obtain⟨P,es2,nB,t2,p,S,u,D,b5,b6,v,rfl⟩:=id I;have c:∀{es:Array (Int×Value)},ElemsOf (intKind prog w) es.toList->∀e∈es.toList,∃n t,e=((intKind prog w).hash n,Value.int n t):=fun J e he=>by
  obtain⟨⟨k,h1,h2⟩,_⟩:=J e he;obtain⟨t,b⟩:=Value.isInt_shape h1;exact⟨k,t,Prod.ext h2 b⟩
 refine Bl (r:=r) ⟨M,d,O.1⟩ ⟨P,p,S.1⟩ hu (fun x G H h'=>pM d l o h') (fun x G H h'=>pM p u v h') (fun L id x G H W h'=>?_) h;refine Bp (es1:=es1) (ep:=N) (g:=fun e=>match e.2 with|.int n _=>q n|_=>false) L (fun y i j h2=>pM d l o h2) (fun y i j h2=>pM p u v h2) (fun y i j h2=>GJ d l o h2)
  (fun y i j h2=>Bo (es1:=es1) (es2:=es2) (fun _ _ _ b=>jP d l o b) (fun _ _ _ b=>jP p u v b) (fun e he=>?_) (fun _ _ _ b hx=>?_) h2) (fun e he i j h2=>?_) ?_
 ·have:∃n t,e=((intKind prog w).hash n,Value.int n t):=by
   rcases List.mem_append.mp he with z|z
   ·exact c f e z
   ·exact c D e z
  obtain⟨n,t,rfl⟩:=this;refine⟨true,(fun z=>by cases z),fun A3 Q3 E3 b=>?_⟩;unfold Builtin.Frozenset.quietEq;exact Ac b
 ·obtain⟨e,he,a,T⟩:=hx
  have:∃n t,e=((intKind prog w).hash n,Value.int n t):=by
   rcases List.mem_append.mp he with z|z
   ·exact c f e z
   ·exact c D e z
  obtain⟨n,t,rfl⟩:=this;cases T
 ·obtain⟨n,t,rfl⟩:=c f e he
  show wpAny (model prog w) x (setFind S2 (Value.int n t) ((intKind prog w).hash n)) i j s;exact wpAny_setFind_of (knd:=intKind prog w) (k:=n) (intKind_is prog w n t) rfl I fun r hr=>h2 r (by rw[hr])
 ·have e:(es1.toList.all fun e=>match e.2 with|.int n _=>q n|_=>false)=r:=by
   rw[Bool.eq_iff_iff,List.all_eq_true,hr];constructor
   ·intro a k hk
    obtain⟨e,he,h1⟩:=(C k).mp hk;obtain⟨n,t,rfl⟩:=c f e he;have e2:n=k:=by simpa[intKind,Value.isInt] using h1
    subst e2;exact a _ he
   ·intro a e he
    obtain⟨n,t,rfl⟩:=c f e he;exact a n ((C n).mpr ⟨_,he,intKind_is _ _ _ _⟩)
  rw[e];exact h'
end
end STb
namespace L2
open PySem PySem.Spec PyProof.Rows
def dO(ns:List Int):HO:=.set (fun n=>decide (n∈ns)) (STb.dd ns).length
section
variable{X:Cx}
def GO(hc:X.calm=true):bU X (.type "set") (fun xs H Q=>∃(l:Addr)(ns:List Int),xs=[.ref l]/\SqL X.K H l (ns.map V.int)/\ns.length<1000/\∀D,H D=none->Q (.ref D) (upd H D (dO ns))):=by
 intro aa s σ H xs us Q I r h;obtain⟨l,ns,rfl,hq,hz,q⟩:=h;obtain⟨u,rfl,j⟩:=vals1 r;cases j;obtain⟨a,d,p,_⟩:=I.list hq;have hi:=intsAre_of d;have v:a.length=ns.length:=by simpa using (A7 d).symm
 refine call_set_list (ns:=ns) (I.ok.hd hc) p.isList (by simpa using hi) (by rw[Ai];unfold scanBound;omega) fun h' tk T f=>?_;have hsz:a.toArray.size=ns.length:=by rw[Ai];exact v
 have c:firstMet (fun i=>ns.getD i 0) a.toArray.size=STb.dd ns:=by rw[hsz,STb.GI ns _ (Ah _),List.take_length]
 rw[c] at T;have w:(fun g=>(STb.dd ns).any (·==g))=fun n=>decide (n∈ns):=by
  funext k
  rw[Bool.eq_iff_iff,List.any_eq_true,decide_eq_true_eq,<-STb.iZ ns k];exact⟨fun⟨x,hx,e⟩=>by rw[<-eq_of_beq e];exact hx,fun hx=>⟨k,hx,beq_self_eq_true k⟩⟩
 rw[w] at T;exact⟨.ref s⁻¹,_,I.laid (o:=dO ns) (fun b u e=>f b u (Ao e) e) (Ah _) (show Heap.SetOf _ _ _ _ _ from T),rfl,q _ (I.hok.fresh (Ah _))⟩
def pairs_at{knd:PySem.KeyKind X.prog X.w Key}:∀{es:List DictEntry}{vs:List (Key×Value)},Pairs knd es vs->∀(i:Nat) e,es[i]?=some e->∃kv,vs[i]?=some kv/\knd.is kv.1 e.key=true
 |_,_,.nil,i,e,h=>by simp at h
 |_,_,.cons h1 h2 t,0,e,h=>by simp at h;subst h;exact⟨_,rfl,h1⟩
 |_,_,.cons h1 h2 t,i+1,e,h=>by simpa using pairs_at t i e (by simpa using h)
def pairs_len{knd:PySem.KeyKind X.prog X.w Key}:∀{es:List DictEntry}{vs:List (Key×Value)},Pairs knd es vs->es.length=vs.length
 |_,_,.nil=>rfl
 |_,_,.cons h1 h2 t=>by rw[Aw,Aw,pairs_len t]
def GP(hu:X.A.units+64<cLine):bU X (.type "set") (fun xs H Q=>∃(a:Addr)(ps:List (Int×V)),xs=[.ref a]/\Rd H a (dZ ps)/\ps.length<=59/\∀D,H D=none->Q (.ref D) (upd H D (dO (ps.map (·.1))))):=by
 intro aa s σ H xs us Q I r h;obtain⟨a,ps,rfl,hq,hz,q⟩:=h;obtain⟨u,rfl,E⟩:=vals1 r;cases E;obtain⟨z,y,vs,c,o,es,ep,h1,h2,F,G,f,j⟩:=iE I.hok hq;have N:ps.length=vs.length:=by simpa using c.length
 have he:=pairs_len f;have U:es.size=ps.length:=by rw[<-AQ,he,N]
 have O:∀{l:List (Int×V)}{m:List (Key×Value)},KV (l.map fun p=>((Sum.inl p.1:Key),p.2)) m->m.map (·.1)=(l.map (·.1)).map Sum.inl:=by
  intro l
  induction l with
  |nil=>intro m t;cases t;rfl
  |cons p l ih=>
   intro m t;cases t with
   |cons e t=>rw[AE,AE,AE,ih t,<-e.1]
 have hk:=O c;have C:(ps.map (·.1)).Nodup:=by
  rw[hk] at j;exact List.Pairwise.imp (fun h e=>h (by rw[e])) (List.pairwise_map.mp j)
 have P:(STb.dd (ps.map (·.1))).length=(ps.map (·.1)).length:=by
  have p:=(List.perm_ext_iff_of_nodup (STb.vW _) C).mpr fun x=>STb.iZ _ x;exact p.length_eq
 refine STb.GM (vals:=ps.map (·.1)) h1 h2.1 F y hu C ω (by rw[Ab];omega) (fun i e x e1 e2=>?_) fun h' tk T d=>?_
 ·have g:es.toList[i]?=some e:=by simpa using e1
  obtain⟨⟨k0,S⟩,g1,g2⟩:=pairs_at (X:=X) f i e g;have g3:(vs.map (·.1))[i]?=some k0:=by rw[Ak,g1];rfl
  rw[hk,Ak,e2] at g3;obtain rfl:(Sum.inl x:Key)=k0:=Al g3;have g4:i9 (Sum.inl x) e.key=true:=g2;obtain⟨t,J⟩:=Value.isInt_shape (k:=x) (v:=e.key) g4;refine⟨⟨t,J⟩,?_⟩;obtain⟨k2,L,M⟩:=G e (Array.mem_of_getElem? e1);have:(Sum.inl x:Key)=k2:=(zo X.prog X.w).inj e.key _ _ g2 L;rw[M,<-this]
  rfl
 ·refine⟨.ref s⁻¹,_,I.laid (o:=dO (ps.map (·.1))) (fun b u e=>d b u (Ao e) e) (Ah _) ?_,rfl,q _ (I.hok.fresh (Ah _))⟩
  show Heap.SetOf _ _ _ _ _;rw[P];exact T
def GQ(hu:X.A.units+64<cLine):bw X (Bg .NotEq) (fun x y H Q=>∃b c ns a,x=.ref b/\y=.ref c/\H b=some (dO ns)/\H c=some (dO a)/\Q (.bl (!(decide ((STb.dd ns).length=(STb.dd a).length)&&decide (∀k∈ns,k∈a)))) H):=by
 intro aa s σ H x y v u Q I d e h;obtain⟨b,c,ns,a,rfl,rfl,e1,e2,q⟩:=h;cases d;cases e;refine STb.GN (r:=decide (∀k∈ns,k∈a)) (show Heap.SetOf _ _ _ _ _ from I.hok _ _ e1) (show Heap.SetOf _ _ _ _ _ from I.hok _ _ e2) hu (by simp) ⟨.bl _,H,I,rfl,q⟩
def GR(hu:X.A.units+64<cLine):bw X (Bg .NotEq) (fun x y H Q=>∃c d a b e f,x=.ref c/\y=.ref d/\H c=some (cU X.prog X.w c a e)/\H d=some (cU X.prog X.w d b f)/\TB H e/\TB H f/\
  Q (.bl (!(decide (a.length=b.length)&&decide (∀k∈a,k∈b)))) H):=by
 intro aa s σ H x y v u Q I g i h;obtain⟨c,d,a,b,e,f,rfl,rfl,e1,e2,j,l,q⟩:=h;cases g;cases i;obtain⟨r,es1,z,C,o⟩:=(Bn I e1).ts (j.keys I);obtain⟨D,es2,E,F,p⟩:=(Bn I e2).ts (l.keys I);exact STb.GK o p hu ⟨.bl _,H,I,rfl,q⟩
end
end L2
end
section
namespace L2
open PySem PySem.Spec PyProof.Rows
def GS(f:Array Value->Array Value)(o:Obj):(o.mapFields f).dict=o.dict:=by unfold Obj.mapFields;split<;>rfl
def Xc(h:Heap)(x:Addr)(C:Value)(T:Option Addr):Prop:=
 ∃b vs,h.get? x=some b/\b.cls=C/\b.dict=none/\b.data=.fields vs/\1<vs.size/\((T=none/\vs[1]?=some .none)\/∃a c ts,T=some a/\vs[1]?=some (.ref a)/\a≠x/\h.get? a=some c/\c.data=.fields ts/\ts[3]?=some .none)
def kC(fr:List Addr)(x:Addr)(T:Option Addr)(h h':Heap):Prop:=
 (∀b o,h.get? b=some o->b≠x->T≠some b->b∉fr->h'.get? b=some o)/\(∀b o,h.get? b=some o->b∈fr->∃a,h'.get? b=some {o with slots:=a})/\h.objs.size<=h'.objs.size
section
variable{M:Model}{A:Around}{E:Ω}{s:Shared}
def pO{base:Heap}{env:Env}{outer:List Env}{L x:Addr}{j:Obj}{vs:Array Value}{head:Value}{N:Bool}{Q:Unit->Shared->Prop}(hfr:A.frames=some (env::outer))(F:s.heap.FunFrames base (env::outer))(hf:env.frame=some L)(he:s.heap.get? x=some j)(O:j.dict=none)(hd:j.data=.fields vs)(hsz:1<vs.size)(h:∀h' T',s⁻¹<=T'->Xc h' x j.cls (some T')->kC ((env::outer).filterMap (·.frame)) x none s.heap h'->Q () {s with heap:=h'}):wpAny M A (do let a <-frameOf env;let d <-entryPlaceOf L N;let b <-EntryCells.newEntry head a .none (rawInt L) .none d;setField (.ref x) 1 b) (fun _ s'=>wpAny M A (setFlight (.ref x) none) Q E s') E s:=by
 have g:x∉(env::outer).filterMap (·.frame):=fun hm=>by
  obtain⟨_,o,p,H⟩:=F.mem hm;rw[he] at p;injection p with p;subst p;exact H vs hd
 refine Aa (wpAny_frameOf_fun hfr F hf fun c l=>?_);refine Aa (wpAny_entryPlaceOf fun d i=>?_);unfold EntryCells.newEntry newFields;refine Aa (Bj ?_ (i.sizeOk5 _ _ _ _ _));have y:c.get? x=some j:=(l.2.1 x g).trans he;have z:=Ad (h:=c) {cls:=.type "traceback",dict:=none,data:=.fields ([head,.ref L,.none,rawInt L,.none]++(if d.isEmpty then List.replicate 6 Value.none else d)).toArray} y;refine wpAny_setField z hd hsz ?_;have u:c.objs.size≠x:=Nat.ne_of_gt (Ao y);have v:=Obj.data_mapFields hd (·.setIfInBounds 1 (Value.ref c.objs.size));have C:=Heap.get?_update_self (Obj.mapFields (·.setIfInBounds 1 (Value.ref c.objs.size))) z (Obj.isFreed_of_fields v);have D:=(Heap.get?_update_other (c.push {cls:=.type "traceback",dict:=none,data:=.fields ([head,.ref L,.none,rawInt L,.none]++(if d.isEmpty then List.replicate 6 Value.none else d)).toArray})
  (Obj.mapFields (·.setIfInBounds 1 (Value.ref c.objs.size))) (Ne.symm u)).trans (Ar c rfl)
 unfold setFlight;refine Aa (A6 C v (x:=.ref c.objs.size) (by simp[hsz]) ?_);rw[if_pos (show(Value.ref c.objs.size != Value.none)=true from by simp)];have P:c.objs.size=s⁻¹:=l.1;refine wpAny_setField D rfl (by simp only[Ai,AC,Aw,List.length_nil]<;>omega) (h _ c.objs.size ω ?_ ?_)
 ·refine⟨_,_,?_,Obj.cls_mapFields _ _,(GS _ _).trans O,v,by simpa using hsz,.inr ⟨c.objs.size,_,_,rfl,by simp[hsz],u,Heap.get?_update_self _ D (Obj.isFreed_of_fields (Obj.data_mapFields rfl _)),Obj.data_mapFields rfl _,?_⟩⟩
  ·rw[Heap.get?_update_other _ _ u];exact C
  ·first|(simp;done)|(rcases i with rfl|⟨_,_,_,_,_,_,_,rfl⟩<;>simp)
 ·have keep:∀b o,b≠x->c.get? b=some o->
    (((c.push {cls:=.type "traceback",dict:=none,data:=.fields ([head,.ref L,.none,rawInt L,.none]++(if d.isEmpty then List.replicate 6 Value.none else d)).toArray}).update x (Obj.mapFields (·.setIfInBounds 1 (Value.ref c.objs.size)))).update c.objs.size
     (Obj.mapFields (·.setIfInBounds 3 ((none:Option Addr).elim Value.none fun f=>rawInt f)))).get? b=some o:=fun b o q hb=>by
   have w:c.objs.size≠b:=Nat.ne_of_gt (Ao hb);rw[Heap.get?_update_other _ _ w,Heap.get?_update_other _ _ (Ne.symm q)];exact Ad _ hb
  refine⟨fun b o hb G _ r=>keep b o G ((l.2.1 b r).trans hb),fun b o hb r=>?_,?_⟩
  ·obtain⟨I,J⟩:=l.2.2 b o hb
   exact⟨I,keep b _ (fun e=>g (e▸r)) J⟩
  ·rw[A4,A4,Heap.size_push]
   show s⁻¹<=c.objs.size+1;omega
def GT{base:Heap}{env:Env}{outer:List Env}{L x:Addr}{C:Value}{T:Option Addr}{Q:Unit->Shared->Prop}(hfr:A.frames=some (env::outer))(l:s.heap.FunFrames base (env::outer))(hf:env.frame=some L)(he:Xc s.heap x C T)(h:∀h' T',s⁻¹<=T'->Xc h' x C (some T')->kC ((env::outer).filterMap (·.frame)) x T s.heap h'->Q () {s with heap:=h'}):wpAny M A (leaving env (.ref x)) Q E s:=by
 obtain⟨z,vs,he,rfl,r,hd,hsz,h1⟩:=he;unfold leaving noteFrame;simp only[hf];rcases h1 with ⟨rfl,h1⟩|⟨a,D,ts,rfl,h1,y,hT,j,u⟩
 ·refine Aa (Aa (A6 he hd h1 ?_))
  rw[if_neg ξ];exact pO hfr l hf he r hd hsz h
 ·refine Aa (Aa (A6 he hd h1 ?_))
  rw[if_pos (show(Value.ref a != Value.none)=true from by simp)];refine Aa (A6 hT j u ?_);rw[if_neg (show ¬((Value.none==rawInt L)=true) from by simp[rawInt])];refine Aa (wpAny_setField hT j (Array.getElem?_eq_some_iff.mp u).1 ?_);have g:∀b,b≠a->(s.heap.update a (Obj.mapFields (·.setIfInBounds 3 Value.none))).get? b=s.heap.get? b:=fun b hb=>Heap.get?_update_other _ _ (Ne.symm hb);have v:∀b o,s.heap.get? b=some o->(∀vs,o.data≠.fields vs)->b≠a:=fun b o hb c q=>by
   rw[q,hT] at hb;injection hb with hb;subst hb;exact c ts j
  refine pO hfr (l.of_keeps fun b o hb c=>⟨o,(g b (v b o hb c)).trans hb,rfl⟩) hf ((g x (Ne.symm y)).trans he) r hd hsz fun h' T' p hx hk=>h h' T' (by rw[A4] at p;exact p) hx ?_;obtain⟨k1,k2,k3⟩:=hk;refine⟨fun b o hb w i f=>k1 b o ((g b fun e=>i (by rw[e])).trans hb) w (by simp) f,fun b o hb f=>?_,by rw[A4] at k3;exact k3⟩;obtain⟨_,o',d,c⟩:=l.mem f;rw[hb] at d;cases d;exact k2 b o ((g b (v b o hb c)).trans hb) f
end
def fm(P:Program)(w:World):dL:=fun outer H s E e s'=>∃(x C:Addr)(T:Option Addr)(H':Hp),e=.ref x/\s'.os=s.os/\AllBare s'.gens/\Un (frs outer) [] H H' s.heap s'.heap/\HOk P w H' s'.heap/\
 H' x=none/\s.heap.get? x=none/\(∀a,T=some a->H' a=none/\s.heap.get? a=none)/\Xc s'.heap x (.ref C) T/\E e (some C) H'
def Bq{P:Program}{w:World}{H:Hp}{h h':Heap}{fr:List Addr}{x:Addr}{T:Option Addr}(f:HOk P w H h)(k:kC fr x T h h')(hx:H x=none)(hT:∀a,T=some a->H a=none)(hf:∀b∈fr,H b=none):HOk P w H h':=by
 intro b u e;refine(f b u e).stay (fun c v hc q=>k.1 c v q ?_ ?_ ?_) (fun _ q=>q) fun _ _ q=>q
 all_goals
  have d:H c≠none:=by
   rcases hc with z|z
   ·rw[z,e];simp
   ·rw[z];simp
 ·exact fun z=>d (z▸hx)
 ·exact fun z=>d (hT c z)
 ·exact fun z=>d (hf c z)
def Br{P:Program}{w:World}{K:Ae}{mg:Str->Option Value}{base:Heap}{N:List Str}{d:Str}{scope:Scope}{f:Addr}{g:Value}{A:Around}{outer:List Env}{s:Shared}{H:Hp}{E:XK}{aa:Ψ}{σ:St}{H':Hp}{s':Shared}{x C:Addr}{T:Option Addr}(I:Inv (a0 (fm P w) P w K mg base N d scope f g A outer s H E) aa σ H' s')(hx:Xc s'.heap x (.ref C) T)(l:H' x=none)(p:s.heap.get? x=none)(hT:∀a,T=some a->H' a=none/\s.heap.get? a=none)(D:E (.ref x) (some C) H'):(a0 (fm P w) P w K mg base N d scope f g A outer s H E).xe (.ref x) s':=by
 show wpAny (model P w) (A.deeper (envOfC d scope s⁻¹ f g)) (leaving (envOfC d scope s⁻¹ f g) (.ref x)) _ _ s';refine GT I.ok.frames I.stack rfl hx fun h' T' j hx' hk=>?_;have hfr:=I.stkFree;have hsz:s⁻¹<=s'⁻¹:=I.sz;have y:∀b o,s.heap.get? b=some o->b≠x/\T≠some b/\b≠s⁻¹:=fun b o e=>by
  have hb:=Ao e;exact⟨fun z=>(by rw[z,p] at e;cases e),fun z=>(by rw[(hT b z).2] at e;cases e),Ap hb⟩
 have up:∀b o o',s.heap.get? b=some o->s'.heap.get? b=some o'->b∉frs outer->h'.get? b=some o':=fun b o o' e e' hb=>by
  obtain⟨n1,n2,r⟩:=y b o e;refine hk.1 b o' e' n1 n2 fun hm=>?_;have u:b∈s⁻¹::frs outer:=hm;rcases List.mem_cons.mp u with z|z
  ·exact r z
  ·exact hb z
 have c:∀b o',s'.heap.get? b=some o'->b∈frs outer->∃i,h'.get? b=some {o' with slots:=i}:=fun b o' e' hb=>hk.2.1 b o' e' (show b∈s⁻¹::frs outer from Ay _ hb);have h:∀b:Addr,b∉(a0 (fm P w) P w K mg base N d scope f g A outer s H E).ex:=fun b z=>absurd (show b∈([]:List Addr) from z) (by simp);refine⟨x,C,some T',H',rfl,I.os,I.bare,⟨fun b o q n hb hx=>?_,fun b o q n hb hx=>?_,fun b o q n hx=>I.base.free b o q n (h b),fun b o q hx=>?_,I.base.tups,I.base.frzs,I.base.tbls⟩,Bq I.hok hk l (fun a e=>(hT a e).1) hfr,l,p,fun a e=>?_,hx',D⟩
 ·exact up b o o q (I.base.keep b o q n hb (h b)) hb
 ·obtain⟨i,e⟩:=I.base.slot b o q n hb (h b)
  obtain⟨v,e'⟩:=c b _ e hb;exact⟨v,e'⟩
 ·obtain⟨o',e⟩:=I.base.there b o q (h b)
  by_cases hb:b∈frs outer
  ·obtain⟨i,e'⟩:=c b o' e hb
   exact⟨_,e'⟩
  ·exact⟨o',up b o o' q e hb⟩
 ·cases e
  refine⟨I.hok.fresh j,?_⟩;cases q:s.heap.get? T' with
  |none=>rfl
  |some o=>exact absurd (Ao q) (Nat.not_lt.mpr (AF hsz j))
def Fun.ok1{P:Program}{w:World}{K:Ae}{mg:Str->Option Value}{base:Heap}{x b:Str}{st:Stmt}{f:Addr}{fd:FuncData}{N ps:List Str}{k:Nat}{sp:Sp}(F:Fun K x b st f fd)(S:zw N ps (ze st))(len:∀vs H Q E,sp vs H Q E->vs.length=ps.length)(e:∀(a:Value)(A:Around)(outer:List Env)(s:Shared)(H:Hp)(vs:List V)(Q:VK)(E:XK),Room k (A.deeper (envOfC b (ze st) s⁻¹ f a))->sp vs H Q E->
   ∃t,PSs (a0 (fm P w) P w K mg base N b (ze st) f a A outer s H E) (zL st) t/\t {nx:=fun _ H'=>Q .non H',rt:=Q} (start N vs) H):FnOk P w K mg base (fm P w) (k+1) f fd ps sp:=by
 obtain⟨g,h,kV,i,j,l,a,ct,o,rfl,lk,d⟩:=F.ex;exact rx lk d S len fun A outer s H vs Q E hr c=>e a A outer s H vs Q E hr c
def GU{P:Program}{w:World}{H:Hp}{h:Heap}{a:Addr}{o:HO}(x:zC P w H h a o):∃ob,h.get? a=some ob:=by
 cases o with
 |lst xs=>obtain⟨_,_,_,_,e⟩:=x;exact⟨_,e⟩
 |tup xs=>obtain⟨_,_,_,o,e,_⟩:=x;exact⟨_,e⟩
 |dK kvs=>obtain⟨_,_,_,_,o,_,_,e,_⟩:=x;exact⟨_,e⟩
 |dT kvs=>obtain⟨_,_,_,_,o,_,_,e,_⟩:=x;exact⟨_,e⟩
 |set S n=>obtain⟨o,_,_,_,e,_⟩:=x;exact⟨_,e⟩
 |ins C dx fs=>obtain⟨_,_,_,e,_⟩:=x;exact⟨_,e⟩
 |own y=>exact x
 |xd fs=>obtain⟨_,⟨_,_,_,e,_⟩,_⟩:=x;exact⟨_,e⟩
 |met f y=>exact⟨_,x⟩
 |rng lo hi=>obtain⟨_,_,_,e⟩:=x;exact⟨_,e⟩
 |frz ob u=>exact⟨_,x.1⟩
 |tbl ps=>exact⟨_,x⟩
 |ext φ=>exact x.2.1
def vX{K:Ae}{h:Heap}{C:Addr}{c:List Value}{p:String}(X:K.In h)(q:PySem.W.excIn K C c p=true):∃bm N nm b bs hdct sn sub ab col dd k0 k1 k2 k3 k5,∃f:Str->Option Value,f "__init__"=none/\(∀T,c.contains (.type T)=true->bm.contains (.type T)=true)/\∀h':Heap,K.In h'->h'.get? C=some (excClassObj nm b C N bs bm hdct sn sub ab col dd k0 k1 k2 k3 k5 p)/\h'.Ns N f/\OwnTail h' c bm:=by
 unfold PySem.W.excIn at q;split at q
 ·rename_i dd cd sl ho
  split at q
  ·rename_i C' bm k0 k1 k2 k3 n k5 hm hs
   simp only[AN,beq_iff_eq,Bool.not_eq_true'] at q;obtain⟨⟨⟨⟨⟨rfl,rfl⟩,g⟩,i⟩,a⟩,j⟩:=q;obtain⟨nm,bs,mro,ns,b,hd,sn,sub,ab,col,u⟩:=cd;dsimp only at hm g a j;subst hm g;have r:sl=#[k0,k1,k2,k3,some (.builtin n),k5]:=by
    obtain⟨l⟩:=sl;simp only at hs;rw[hs]
   subst r;refine⟨bm,ns,nm,b,bs,hd,sn,sub,ab,col,dd,k0,k1,k2,k3,k5,h.nsMap ns,PySem.W.nsMap_none_of_in X a j,fun T hT=>(PySem.W.tail_of_in X i).hasType hT,fun h' d=>⟨d _ _ ho,?_,PySem.W.tail_of_in d i⟩⟩;have s:h.Ns ns (h.nsMap ns):=.of_isNs (PySem.W.isNs_of_in X a);unfold PySem.W.nsOkIn at a;split at a
   ·rename_i c1 d1 es1 fL sl1 cT
    exact s.at' fun o e=>by
     rw[X _ _ cT] at e;rw[<-e];exact d _ _ cT
   ·cases a
  ·cases q
 ·cases q
abbrev i3:List Value:=[.type "ValueError",.type "Exception",.type "BaseException",.type "object"]
section
variable{X:Cx}
def GV(EX:XK)(C:Addr):TS:=fun _ _ H=>∀x,H x=none->EX (.ref x) (some C) H
def Bs{x:Str}{C:Addr}{b:Str}{j:Nat}{np d aA pos:Pos}{EX:XK}(hc:X.calm=true)(O:Gl X x)(hm:X.mg x=some (.ref C))(q:PySem.W.excIn X.K C i3 "ValueError.__new__"=true)(P:∀(aa:Ψ)(σ:St)(H:Hp)(s:Shared)(x:Addr),Inv X aa σ H s->Xc s.heap x (.ref C) none->H x=none->X.s₀.heap.get? x=none->EX (.ref x) (some C) H->X.xe (.ref x) s)(hex:X.ex=[]:=by rfl)(hd:(x==("__debug__":Str))=false:=by decide)(Q:(backTo aA (starEach [Expr.Constant (.str b) j d] X.env)).any (·.1)=false:=by rfl):PS X (.Raise (some (.Call (.Name x np) [.Constant (.str b) j d] [] aA)) none pos) (GV EX C):=by
 intro aa s σ H D I h;obtain⟨bm,N,nm,r,bs,hdct,sn,sub,ab,col,dd,k0,k1,k2,k3,k5,U,w,y,A⟩:=vX I.kIn q;refine wpAny_Raise_call_subU (C:=C) (nm:=nm) (q:=r) (N:=N) (bs:=bs) (bm:=bm) (hdct:=hdct) (sn:=sn) (sub:=sub) (ab:=ab) (col:=col) (dd:=dd) (k0:=k0) (k1:=k1) (k2:=k2) (k3:=k3) (k5:=k5) PySem.F.excBase_ValueError PySem.F.excBase_ValueError.hasB PySem.F.excBase_ValueError (y _ PySem.F.excBase_ValueError.hasBase) (I.ok.hd hc) Q w ?_;refine aJ (jT (v:=.ref C) O hm rfl hd aa s σ H (fun v H1=>v=.ref C/\H1=H) I ⟨rfl,rfl⟩) fun f g ⟨v,H1,S,i,e1,e2⟩=>?_;subst e1 e2;cases i;refine⟨rfl,?_⟩;have M:=(ac pe_str ai:PA X [Expr.Constant (.str b) j d] _) aA aa g σ H1 (fun vs H2=>vs=[.str b]/\H2=H1) S ⟨rfl,rfl⟩;refine Calls.evalArgs_plain (aJ M fun us c ⟨vs,H2,I2,l,e3,p⟩=>?_);subst e3 p;obtain⟨E,G,J⟩:=A c.heap I2.kIn;refine⟨rfl,?_,E,G,J,fun h' e hm=>?_⟩
 ·rw[<-l.length];show 1<=sizeLine;decide
 obtain⟨t,L,_,_⟩:=hm.there;have T:Inv X aa σ H2 {c with heap:=h'}:=I2.kept (t':=c.toks) hm.keeps;have he:H2 e=none:=by
  cases z:H2 e with
  |none=>rfl
  |some u=>
   obtain⟨o,a⟩:=GU (I2.hok e u z);rw[hm.new] at a;cases a
 refine P aa σ H2 _ e T ⟨_,_,L,rfl,rfl,rfl,(by show 1<6;decide),.inl ⟨rfl,rfl⟩⟩ he ?_ (h e he);cases z:X.s₀.heap.get? e with
 |none=>rfl
 |some o=>
  obtain⟨o',a⟩:=I2.base.there e o z (by rw[hex];simp);rw[hm.new] at a;cases a
end
section
variable{M:Model}{A:Around}{E:Ω}{s:Shared}
def GW{base:Heap}{env:Env}{outer:List Env}{L x:Addr}{C:Value}{T:Option Addr}{Q:Unit->Shared->Prop}(hfr:A.frames=some (env::outer))(l:s.heap.FunFrames base (env::outer))(hf:env.frame=some L)(he:Xc s.heap x C T)(h:∀h' T',s⁻¹<=T'->Xc h' x C (some T')->kC ((env::outer).filterMap (·.frame)) x T s.heap h'->Q () {s with heap:=h'}):wpAny M A (noteFrame (.ref x) env) (fun _ w=>wpAny M A (setFlight (.ref x) none) Q E w) E s:=by
 obtain⟨D,vs,he,rfl,r,hd,hsz,h1⟩:=he;unfold noteFrame;simp only[hf];rcases h1 with ⟨rfl,h1⟩|⟨a,F,ts,rfl,h1,z,hT,j,u⟩
 ·refine Aa (A6 he hd h1 ?_)
  rw[if_neg ξ];exact pO hfr l hf he r hd hsz h
 ·refine Aa (A6 he hd h1 ?_)
  rw[if_pos (show(Value.ref a != Value.none)=true from by simp)];refine Aa (A6 hT j u ?_);rw[if_neg (show ¬((Value.none==rawInt L)=true) from by simp[rawInt])];refine Aa (wpAny_setField hT j (Array.getElem?_eq_some_iff.mp u).1 ?_);have g:∀b,b≠a->(s.heap.update a (Obj.mapFields (·.setIfInBounds 3 Value.none))).get? b=s.heap.get? b:=fun b hb=>Heap.get?_update_other _ _ (Ne.symm hb);have v:∀b o,s.heap.get? b=some o->(∀vs,o.data≠.fields vs)->b≠a:=fun b o hb c q=>by
   rw[q,hT] at hb;injection hb with hb;subst hb;exact c ts j
  refine pO hfr (l.of_keeps fun b o hb c=>⟨o,(g b (v b o hb c)).trans hb,rfl⟩) hf ((g x (Ne.symm z)).trans he) r hd hsz fun h' T' p hx hk=>h h' T' (by rw[A4] at p;exact p) hx ?_;obtain⟨k1,k2,k3⟩:=hk;refine⟨fun b o hb y i f=>k1 b o ((g b fun e=>i (by rw[e])).trans hb) y (by simp) f,fun b o hb f=>?_,by rw[A4] at k3;exact k3⟩;obtain⟨_,o',d,c⟩:=l.mem f;rw[hb] at d;cases d;exact k2 b o ((g b (v b o hb c)).trans hb) f
def GX{x:Addr}{C:Value}{T:Addr}{Q:Unit->Shared->Prop}(he:Xc s.heap x C (some T))(h:∀h',Xc h' x C (some T)->kC [] x (some T) s.heap h'->Q () {s with heap:=h'}):wpAny M A (setFlight (.ref x) none) Q E s:=by
 obtain⟨i,vs,he,rfl,j,hd,hsz,h1⟩:=he;rcases h1 with ⟨z,_⟩|⟨a,q,ts,z,h1,g,hT,f,l⟩
 ·cases z
 cases z;unfold setFlight;refine Aa (A6 he hd h1 ?_);rw[if_pos (show(Value.ref T != Value.none)=true from by simp)];have c:=(Array.getElem?_eq_some_iff.mp l).1;refine wpAny_setField hT f c (h _ ?_ ?_)
 ·refine⟨i,vs,?_,rfl,j,hd,hsz,.inr ⟨T,_,_,rfl,h1,g,Heap.get?_update_self _ hT (Obj.isFreed_of_fields (Obj.data_mapFields f _)),Obj.data_mapFields f _,?_⟩⟩
  ·rw[Heap.get?_update_other _ _ g];exact he
  ·simp[c]
 ·refine⟨fun b o hb p d _=>?_,fun b o _ z=>absurd z (by simp),by rw[A4];exact Ah _⟩
  rw[Heap.get?_update_other _ _ (fun e=>d (by rw[e]))];exact hb
def GY{C S:Addr}{nm q N bs bm hdct sn sub ab col dd k0 k1 k2 k3 k5 bQ}{jA q' N' hJ gv cw jo dW jp dP bY je ju jm jd jl cA}{h:Heap}{g:Array GenState}{d:Drawn}{t:Nat}{os:OsState}{e:Addr}{b:Obj}{Q:Bool->Shared->Prop}(i:h.get? C=some (excClassObj nm q C N bs bm hdct sn sub ab col dd k0 k1 k2 k3 k5 bQ))(c:h.get? S=some (excClassObj jA q' S N' hJ gv cw jo dW jp dP bY je ju jm jd jl cA))(he:h.get? e=some b)(j:b.cls=.ref C)(l:gv.contains (.type "BaseException")=true)(o:(Value.ref C::bm).contains (.ref S)=true)(hq:Q true ⟨h,g,d,t,os⟩):wpAny M A (excMatches (.ref e) (.ref S)) Q E ⟨h,g,d,t,os⟩:=by
 have a:(Value.ref S::gv).contains (.type "BaseException")=true:=by rw[List.contains_cons,l,Bool.or_true]
 have f:=tc_notTuple;unfold excMatches
 repeat(first|(with_reducible refine wpAny_loadPart_at he ?_;rw[j])|with_reducible refine wpAny_loadPart_at c ?_|(with_reducible refine wpAny_isSubtype_exc c ?_;rw[a])|(with_reducible refine wpAny_isSubtype_exc i ?_;rw[o])|wp_step)
 exact hq
end
section
variable{X:Cx}{aa:Ψ}{σ:List (Option V)}{H H':Hp}{s:Shared}{h':Heap}
structure Off(X:Cx)(aa:Ψ)(x:Addr):Prop where
 s0:X.s₀.heap.get? x=none
 lo:x≠X.env.locals
 ce:∀y c,X.env.cells.lookup y=some c->c≠x
 pn:∀p∈X.pn++aa,p.1≠x
def Inv.off(I:Inv X aa σ H s)(hex:X.ex=[]){x:Addr}(h:s.heap.get? x=none):Off X aa x:=by
 refine⟨?_,fun e=>?_,fun y c e z=>?_,fun p hp z=>?_⟩
 ·cases q:X.s₀.heap.get? x with
  |none=>rfl
  |some o=>
   obtain⟨o',e⟩:=I.base.there x o q (by rw[hex];simp);rw[h] at e;cases e
 ·obtain⟨m,⟨o,_,_,a,_⟩,_⟩:=I.loc
  rw[<-e,h] at a;cases a
 ·obtain⟨v,o,a,_⟩:=I.cell y c e
  rw[z,h] at a;cases a
 ·have:=(I.pin p hp).1
  rw[z,h] at this;cases this
def Inv.stepN{ch:List Addr}(I:Inv X aa σ H s)(j:∀b∈ch,Off X aa b)(keep:∀b o,b≠X.env.locals->b∉X.fs->b∉ch->s.heap.get? b=some o->H b=none->h'.get? b=some o)(slot:∀b o,b≠X.env.locals->b∈X.fs->b∉ch->s.heap.get? b=some o->H b=none->∃A,h'.get? b=some {o with slots:=A})(free:∀b o,b∉ch->s.heap.get? b=some o->H b=none->H' b=none)(there:∀b o,b∉ch->s.heap.get? b=some o->∃o',h'.get? b=some o')(tups:∀b xs,H b=some (.tup xs)->H' b=some (.tup xs))(frzs:∀b o u,H b=some (.frz o u)->H' b=some (.frz o u))(tbls:∀b ps,H b=some (.tbl ps)->∃more,H' b=some (.tbl (ps++more)))(ns:∀m,s.heap.Ns X.env.locals m->h'.Ns X.env.locals m)(C:HOk X.prog X.w H' h'):Inv X aa σ H' {s with heap:=h'}:=by
 have h:∀b o,X.s₀.heap.get? b=some o->b≠X.env.locals:=fun b o e=>Ap (Az (Ao e) I.ok.above);have y:∀b o,X.s₀.heap.get? b=some o->b∉ch:=fun b o e hb=>by
  rw[(j b hb).s0] at e;cases e
 have a:∀x c,X.env.cells.lookup x=some c->∀v,s.heap.IsCell c v->h'.IsCell c v:=fun x c e v ⟨o,g,hd⟩=>by
  have f:c∉ch:=fun z=>(j c z).ce x c e rfl
  by_cases hc:c∈X.fs
  ·obtain⟨A,q⟩:=slot c o (I.cne x c e) hc f g (I.freeC x c e)
   exact⟨_,q,hd⟩
  ·exact⟨o,keep c o (I.cne x c e) hc f g (I.freeC x c e),hd⟩
 refine⟨I.ok,I.os,I.bare,⟨fun b o e n hb hx=>?_,fun b o e n hb hx=>?_,fun b o e n hx=>?_,fun b o e hx=>?_,fun b xs e=>tups b xs (I.base.tups b xs e),fun b o xs e=>frzs b o xs (I.base.frzs b o xs e),fun b ps e=>?_⟩,?_,fun x c e=>?_,?_,fun x c e=>?_,fun p hp=>?_,C,I.len⟩
 ·exact keep b o (h b o e) hb (y b o e) (I.base.keep b o e n hb hx) (I.base.free b o e n hx)
 ·obtain⟨A,e1⟩:=I.base.slot b o e n hb hx
  obtain⟨E,e2⟩:=slot b _ (h b o e) hb (y b o e) e1 (I.base.free b o e n hx);exact⟨E,e2⟩
 ·obtain⟨o',e1⟩:=I.base.there b o e hx
  exact free b o' (y b o e) e1 (I.base.free b o e n hx)
 ·obtain⟨o',e1⟩:=I.base.there b o e hx
  exact there b o' (y b o e) e1
 ·obtain⟨F,e1⟩:=I.base.tbls b ps e
  obtain⟨G,e2⟩:=tbls b _ e1;exact⟨F++G,by rw[e2,Array.append_assoc]⟩
 ·obtain⟨m,J,L⟩:=I.loc
  refine⟨m,ns m J,fun i x v e1 e2 e3=>?_⟩;obtain⟨u,r,l⟩:=L i x v e1 e2 e3;refine⟨u,r,?_⟩;rcases l with l|⟨k,c,e,z⟩
  ·exact .inl l
  ·exact .inr ⟨k,c,e,a x c e _ z⟩
 ·obtain⟨v,z⟩:=I.cell x c e
  exact⟨v,a x c e v z⟩
 ·obtain⟨m,⟨o,_,_,g,_⟩,_⟩:=I.loc
  exact free _ o (fun z=>(j _ z).lo rfl) g I.free
 ·obtain⟨v,o,g,hd⟩:=I.cell x c e
  exact free c o (fun z=>(j c z).ce x c e rfl) g (I.freeC x c e)
 ·obtain⟨e,n,ne,D,d⟩:=I.pin p hp
  have f:p.1∉ch:=fun z=>(j p.1 z).pn p hp rfl;exact⟨keep p.1 p.2 ne D f e n,free p.1 p.2 f e n,ne,D,d⟩
def Inv.xkeep{fr:List Addr}{x:Addr}{T:Option Addr}(I:Inv X aa σ H s)(k:kC fr x T s.heap h')(hfr:∀b∈fr,b∈frs X.stack)(ox:Off X aa x)(hx:H x=none)(d:∀a,T=some a->Off X aa a/\H a=none):Inv X aa σ H {s with heap:=h'}:=by
 have c:∀b o,b∉(x::T.toList)->s.heap.get? b=some o->∃c,h'.get? b=some {o with slots:=c}:=fun b o hc e=>by
  by_cases hb:b∈fr
  ·exact k.2.1 b o e hb
  ·exact⟨o.slots,k.1 b o e (fun z=>hc (by simp[z])) (fun z=>hc (by simp[z])) hb⟩
 refine I.stepN (ch:=x::T.toList) (fun b hb=>?_) (fun b o f hb hc e _=>?_) (fun b o _ _ hc e _=>c b o hc e) (fun _ _ _ _ n=>n) (fun b o hc e=>?_) (fun _ _ e=>e) (fun _ _ _ e=>e) (fun b ps e=>⟨#[],by rw[e];simp⟩) (fun m hm=>?_) (Bq I.hok k hx (fun a e=>(d a e).2) fun b hb=>I.stkFree b (hfr b hb))
 ·rcases List.mem_cons.mp hb with z|z
  ·rw[z];exact ox
  ·exact(d b (by simpa using z)).1
 ·exact k.1 b o e (fun z=>hc (by simp[z])) (fun z=>hc (by simp[z])) fun z=>(List.mem_cons.mp (I.stkSub b (hfr b z))).elim f hb
 ·obtain⟨z,e⟩:=c b o hc e
  exact⟨_,e⟩
 ·obtain⟨o,es,ep,g,r⟩:=hm
  obtain⟨z,e⟩:=c _ o (fun z=>by
   rcases List.mem_cons.mp z with z|z
   ·exact ox.lo z.symm
   ·exact(d _ (by simpa using z)).1.lo rfl) g
  exact⟨_,es,ep,e,r⟩
abbrev dw(x C:Addr):HO:=.ext fun h=>∃o,PySem.W.InstAt h x o C none
def Inv.know{x C:Addr}{T:Option Addr}(I:Inv X aa σ H s)(hx:H x=none)(ox:Off X aa x)(e:Xc s.heap x (.ref C) T):Inv X aa σ (upd H x (dw x C)) s:=by
 obtain⟨a,vs,he,hc,g,h,_⟩:=e;have i:PySem.W.notCls a=true:=by unfold PySem.W.notCls;rw[h]
 have d:match a.dict,(none:Option Obj) with|some dx,some o=>s.heap.get? dx=some o|none,none=>True|_,_=>False:=by rw[g];trivial
 have ne:∀b u,H b=some u->b≠x:=fun b u e z=>by rw[z,hx] at e;cases e
 refine I.stepN (h':=s.heap) (ch:=[x]) (fun b hb=>?_) (fun b o _ _ _ e _=>e) (fun b o _ _ _ e _=>⟨o.slots,e⟩) (fun b o hc _ n=>?_) (fun b o _ e=>⟨o,e⟩) (fun b xs e=>?_) (fun b o u e=>?_) (fun b ps e=>⟨#[],?_⟩) (fun m hm=>hm) (fun b u e=>?_)
 ·obtain rfl:b=x:=by simpa using hb
  exact ox
 ·rw[zh (fun z=>hc (by simp[z]))];exact n
 ·rw[zh (ne b _ e)];exact e
 ·rw[zh (ne b _ e)];exact e
 ·rw[zh (ne b _ e),e];simp
 ·by_cases hb:b=x
  ·subst hb
   rw[za] at e;cases e;refine⟨⟨a,he,hc,i,d⟩,⟨a,he⟩,fun h1 h2 ⟨o,e1,e2,e3,f⟩ q=>⟨o,q o e1,e2,e3,?_⟩⟩;cases z:o.dict with
   |none=>trivial
   |some dx=>rw[z] at f;exact f.elim
  ·rw[zh hb] at e
   refine(I.hok b u e).stay (fun c v _ q=>q) (fun c q=>?_) fun c xs q=>?_
   ·rw[zh (ne c _ q)];exact q
   ·rw[zh (ne c _ q)];exact q
end
section
variable{X:Cx}{aa bP:Ψ}{σ:List (Option V)}{H H':Hp}{s:Shared}{h':Heap}{EB:XK}
def GZ(X:Cx)(aa:Ψ)(EB:XK):Ω:=fun e s=>∃(x C:Addr)(T:Option Addr)(σ:St)(H:Hp),e=.ref x/\Inv X aa σ H s/\Xc s.heap x (.ref C) T/\H x=none/\Off X aa x/\(∀a,T=some a->Off X aa a/\H a=none)/\EB (.ref x) (some C) H
abbrev XB(X:Cx)(aa:Ψ)(EB:XK):Cx:={X with pn:=X.pn++aa,xe:=GZ X aa EB}
abbrev XH(X:Cx)(aa:Ψ)(x:Addr):Cx:={X with A:=X.A.mark (some (.ref x)),calm:=false,pn:=X.pn++aa,xe:=fun _ _=>False}
def Inv.toB(I:Inv X aa σ H s):Inv (XB X aa EB) [] σ H s:=
 ⟨⟨I.ok.mod,I.ok.kind,I.ok.glob,I.ok.blt,I.ok.above,I.ok.inj,I.ok.has,I.ok.cab,I.ok.hd,I.ok.frames,I.ok.stk,I.ok.exf,I.ok.bs,I.ok.bsz,I.ok.noex,I.ok.exfs,I.ok.funs,I.ok.frf⟩,I.os,I.bare,I.base,I.loc,I.cell,I.free,I.freeC,
  fun p hp=>I.pin p (by simpa using hp),I.hok,I.len⟩
def Inv.ofB(I:Inv (XB X aa EB) bP σ H s):Inv X aa σ H s:=
 ⟨⟨I.ok.mod,I.ok.kind,I.ok.glob,I.ok.blt,I.ok.above,I.ok.inj,I.ok.has,I.ok.cab,I.ok.hd,I.ok.frames,I.ok.stk,I.ok.exf,I.ok.bs,I.ok.bsz,I.ok.noex,I.ok.exfs,I.ok.funs,I.ok.frf⟩,I.os,I.bare,I.base,I.loc,I.cell,I.free,I.freeC,
  fun p hp=>I.pin p (List.mem_append_left _ hp),I.hok,I.len⟩
def Inv.toH{x:Addr}(I:Inv X aa σ H s):Inv (XH X aa x) [] σ H s:=
 ⟨⟨I.ok.mod,I.ok.kind,I.ok.glob,I.ok.blt,I.ok.above,I.ok.inj,I.ok.has,I.ok.cab,(fun z=>nomatch z),I.ok.frames,I.ok.stk,I.ok.exf,I.ok.bs,I.ok.bsz,I.ok.noex,I.ok.exfs,I.ok.funs,I.ok.frf⟩,I.os,I.bare,I.base,I.loc,I.cell,I.free,I.freeC,
  fun p hp=>I.pin p (by simpa using hp),I.hok,I.len⟩
def Inv.ofH{x:Addr}(I:Inv (XH X aa x) bP σ H s)(hd:X.calm=true->X.A.handled=none):Inv X aa σ H s:=
 ⟨⟨I.ok.mod,I.ok.kind,I.ok.glob,I.ok.blt,I.ok.above,I.ok.inj,I.ok.has,I.ok.cab,hd,I.ok.frames,I.ok.stk,I.ok.exf,I.ok.bs,I.ok.bsz,I.ok.noex,I.ok.exfs,I.ok.funs,I.ok.frf⟩,I.os,I.bare,I.base,I.loc,I.cell,I.free,I.freeC,
  fun p hp=>I.pin p (List.mem_append_left _ hp),I.hok,I.len⟩
def SP.ofB{D:Ends}{f:Flow}{s':Shared}(h:SP (XB X aa EB) [] D f s'):SP X aa D f s':=by
 cases f with
 |next=>obtain⟨a,H',I,q⟩:=h;exact⟨a,H',I.ofB,q⟩
 |brk=>obtain⟨a,H',I,q⟩:=h;exact⟨a,H',I.ofB,q⟩
 |cont=>obtain⟨a,H',I,q⟩:=h;exact⟨a,H',I.ofB,q⟩
 |ret u=>obtain⟨v,a,H',I,r,q⟩:=h;exact⟨v,a,H',I.ofB,r,q⟩
def Bu(hex:X.ex=[]):cL (fm X.prog X.w) (XB X aa EB) EB:=by
 rintro bP σ H1 f e g I ⟨x,C,T,H',rfl,os,c,un,d,h,i,hT,hx,j⟩;have I2:Inv (XB X aa EB) bP σ H' g:=I.call' (ch:=[]) os un d c (fun b z=>absurd z (by simp));have J:Inv X aa σ H1 f:=I.ofB;exact⟨x,C,T,σ,H',rfl,I2.ofB,hx,h,J.off hex i,fun a e=>⟨J.off hex (hT a e).2,(hT a e).1⟩,j⟩
def Inv.gone{i:Nat}{n:Str}{m:Str->Option Value}{u:Option Value}(I:Inv X aa σ H s)(C:X.N.Nodup)(hi:X.N[i]?=some n)(D:∀(i:Nat)(x:Str)(v:V),X.N[i]?=some x->σ[i]?=some (some v)->kH X.env.scope x->∃u,RelV v u/\Look X.env s.heap m x u)(E:h'.Ns X.env.locals fun y=>if y=n then u else m y)(hs:AR X.env.locals s.heap h'):Inv X aa (σ.set i none) H {s with heap:=h'}:=by
 have a:i<σ.length:=by rw[I.len];exact(List.getElem?_eq_some_iff.mp hi).1
 refine⟨I.ok,I.os,I.bare,⟨fun b o e n hb hx=>?_,fun b o e n hb hx=>?_,I.base.free,fun b o e hx=>?_,I.base.tups,I.base.frzs,I.base.tbls⟩,⟨_,E,fun j y h e1 e2 e3=>?_⟩,fun y c e=>?_,I.free,I.freeC,fun p hp=>?_,fun b ob e=>?_,by simpa using I.len⟩
 ·exact(hs.2 b (Ap (Az (Ao e) I.ok.above))).trans (I.base.keep b o e n hb hx)
 ·obtain⟨l,e1⟩:=I.base.slot b o e n hb hx
  exact⟨l,(hs.2 b (Ap (Az (Ao e) I.ok.above))).trans e1⟩
 ·obtain⟨o',e1⟩:=I.base.there b o e hx
  exact⟨o',(hs.2 b (Ap (Az (Ao e) I.ok.above))).trans e1⟩
 ·by_cases f:j=i
  ·subst f
   rw[List.getElem?_set_self a] at e2;cases e2
  ·rw[List.getElem?_set_ne (Ne.symm f)] at e2
   obtain⟨r,w,q⟩:=D j y h e1 e2 e3;refine⟨r,w,?_⟩;rcases q with ⟨k,e⟩|⟨k,c,e,z⟩
   ·refine .inl ⟨k,?_⟩
    have:y≠n:=fun e=>f (qQ C e1 (e▸hi));simp[this,e]
   ·exact .inr ⟨k,c,e,z.sameBut hs (I.cne y c e)⟩
 ·obtain⟨g,z⟩:=I.cell y c e
  exact⟨g,z.sameBut hs (I.cne y c e)⟩
 ·obtain⟨e,n,ne,A,d⟩:=I.pin p hp
  exact⟨(hs.2 p.1 ne).trans e,n,ne,A,d⟩
 ·refine(I.hok b ob e).stay (fun c g hc q=>(hs.2 c ?_).trans q) (fun _ q=>q) fun _ _ q=>q
  rintro rfl;rcases hc with z|z
  ·rw[<-z,I.free] at e;cases e
  ·rw[I.free] at z;cases z
def hY(K:Ae)(C S:Addr):Prop:=∀h:Heap,K.In h->∃nm q N bs bm hdct sn sub ab col dd k0 k1 k2 k3 k5 b c d N' e a f g i j l o p r s u v w,
 h.get? C=some (excClassObj nm q C N bs bm hdct sn sub ab col dd k0 k1 k2 k3 k5 b)/\h.get? S=some (excClassObj c d S N' e a f g i j l o p r s u v w)/\
 a.contains (.type "BaseException")=true/\(Value.ref C::bm).contains (.ref S)=true
def v0(K:Ae)(n ie:Nat)(S:Addr)(d:TS)(D:Ends):XK:=fun e c H'=>∃x C,e=.ref x/\c=some C/\hY K C S/\∀a:St,a.length=n->
 d {nx:=fun b H2=>D.nx (b.set ie none) H2,rt:=fun _ _=>False} (a.set ie (some (.ref x))) (upd H' x (dw x C))
def v1(K:Ae)(n ie:Nat)(S:Addr)(t:XK->TS)(a:TS):TS:=fun D σ H=>t (v0 K n ie S a D) D σ H
def G0{n:Str}{ie:Nat}{r:Str}{S:Addr}{body Q:List Stmt}{U:Stmt}{t:XK->TS}{W:TS}{np d pos:Pos}(hex:X.ex=[])(E:X.N.Nodup)(l:X.N[ie]?=some n)(i:X.env.scope.names.lookup n=some .local)(c:X.stack=X.env::X.outer)(hfr:X.env.frame=some X.env.locals)(qJ:Gl X r)(uU:X.mg r=some (.ref S))(hb:∀aa EB,PSs (XB X aa EB) body (t EB))(hH:∀aa x,PSs (XH X aa x) (U::Q) W)(hd:(r==("__debug__":Str))=false:=by decide):PS X (.Try body [.ExceptHandler (some (.Name r np)) (some n) (U::Q) d] [] [] pos) (v1 X.K X.N.length ie S t W):=by
 intro aa s σ H D I h;refine wpAny_Try_except (A9 (hb aa _ [] s σ H D I.toB h) (fun f g q=>?_) (fun e g q=>?_))
 ·have j:SP X aa D f g:=q.ofB
  cases f with
  |next=>exact wpAny_execs_nil j
  |brk=>exact j
  |cont=>exact j
  |ret u=>exact j
 obtain⟨x,C,T,p,H1,rfl,I1,hx,y,ox,hT,x',C',e1,e2,sub,k⟩:=q;cases e1;cases e2;have tQ:=c;refine GW (base:=X.base) (outer:=X.outer) (L:=X.env.locals) (by rw[<-c];exact I1.ok.frames) (by rw[<-c];exact I1.stack) hfr hx fun h2 T2 F G kY=>?_;have I2:Inv X aa p H1 {g with heap:=h2}:=I1.xkeep kY (fun b z=>by rw[c];exact z) ox y hT;have tN:g.heap.get? T2=none:=Heap.get?_none_of_le F;have qA:Off X aa T2:=I1.off hex tN;have uG:H1 T2=none:=I1.hok.fresh F;refine wpAny_handleBy_cons (codeAny_handlers_test ?_) (by intro q;cases q);refine kQ (X:=XH X aa x) (I2.toH (x:=x)) qJ uU ?_ hd;obtain⟨nm,q,N,bs,bm,hdct,sn,dW,ab,col,dd,k0,k1,k2,k3,k5,bQ,jA,j,N',hJ,gv,cw,jo,pG,jp,dP,bY,je,ju,jm,jd,jl,cA,hC,hS,dH,aP⟩:=sub h2 I2.kIn;obtain⟨oe,vs,gz,A,_⟩:=id G;refine GY hC hS gz A dH aP ?_;show codeAny _ _ _ _ _;refine codeAny_handlers_suite_as ?_;refine GX G fun w ub lg=>?_;have I4:Inv X aa p H1 {g with heap:=w}:=I2.xkeep (h':=w) lg (fun b z=>absurd z (by simp)) ox y (fun a e=>by cases e;exact⟨qA,uG⟩);have I5:Inv X aa p (upd H1 x (dw x C)) {g with heap:=w}:=I4.know y ox ub;refine ng (X:=XH X aa x) (I5.toH (x:=x)) E l (.inl i) (v:=.ref x) rfl (fun s6 I6=>?_) (.inr i);refine A9 (hH aa x [] s6 _ _ _ I6 (k p I1.len)) (fun f J o=>?_) fun _ _ z=>z.elim;cases f with
 |brk=>obtain⟨_,_,_,z⟩:=o;exact z.elim
 |cont=>obtain⟨_,_,_,z⟩:=o;exact z.elim
 |ret u=>obtain⟨_,_,_,_,_,z⟩:=o;exact z.elim
 |next=>
  obtain⟨M,Y,I7,d7⟩:=o;have I7':Inv X aa M Y J:=I7.ofH I.ok.hd;show wpAny _ _ (do bindName X.env n .none;unbindBehindTheSuite X.env n d) _ _ J;refine Aa (wpAny_bindName (ng I7' E l (.inl i) (v:=.non) rfl (fun s8 I8=>?_) (.inr i)));obtain⟨m,hn,O⟩:=id I8.loc;have oH:ie<M.length:=by rw[I7'.len];exact(List.getElem?_eq_some_iff.mp l).1
  obtain⟨u,_,lk⟩:=O ie n .non l (by rw[List.getElem?_set_self oH]) (.inl i);have P:X.env.kindOf n=some .local:=i;have hm:m n=some u:=by
   rcases lk with ⟨_,e⟩|⟨z,_⟩
   ·exact e
   ·rw[P] at z;rcases z with z|z<;>cases z
  unfold unbindBehindTheSuite;refine wpAny_onRaise (wpAny_unbindName_local P hn hm (by rw[I.ok.kind];rfl) fun h9 u9 rp uD=>?_);have I9:=I8.gone E l O rp uD;rw[List.set_set] at I9;exact⟨_,Y,I9,d7⟩
end
def G1{K:Ae}{C:Addr}{name:Str}{a g:Value}(hc:(PySem.W.clsIn K C).isSome=true)(b:PySem.W.findIn K (.ref C) name=some (some a))(c:PySem.W.specialIn K a "__get__"=some (some g))(d:PySem.W.takesIn K a=some true):PySem.W.findObj K C none name=some (.bind g a):=by
 obtain⟨e,hc⟩:=Option.isSome_iff_exists.mp hc;unfold PySem.W.findObj;rw[hc,Option.bind_some,b,Option.bind_some];simp[c,d]
structure dR(K:Ae)(D:Addr):Prop where
 ga:PySem.W.findIn K (.ref D) "__getattribute__"=some (some (.builtin "BaseException.__getattribute__"))
 gt:PySem.W.findIn K (.ref D) "__getattr__"=some none
 cls:(PySem.W.clsIn K D).isSome=true
 find:PySem.W.findIn K (.ref D) "__class__"=some (some (.builtin "object.__class__"))
 spec:PySem.W.specialIn K (.builtin "object.__class__") "__get__"=some (some (.builtin "getset_descriptor.__get__"))
 tk:PySem.W.takesIn K (.builtin "object.__class__")=some true
 mro:PySem.W.mroIn K D (.type "object")=some true
 mroB:PySem.W.mroIn K D (.type "BaseException")=some true
section
variable{prog:Program}{w:World}{A:Around}{E:Ω}{s:Shared}{K:Ae}{x D:Addr}{ox:Obj}
def G2{M:Model}{b:Value}{Q:Unit->Shared->Prop}(c:dR K D)(X:K.In s.heap)(I:PySem.W.InstAt s.heap x ox D none)(hq:Q () s):wpAny M A (checkBuiltinCall "BaseException.__getattribute__" ⟨[.ref x,b],[]⟩) Q E s:=by
 obtain⟨e,g,d,t,os⟩:=s;have hk:builtinKind "BaseException.__getattribute__"=some .slot:=δ
 have a:splitId "BaseException.__getattribute__"=some ("BaseException","__getattribute__"):=δ
 have f:=F.args_bexc_ga (.ref x) b;have L0:=I.type (M:=M);have L1:=PySem.W.looks_mroIn (M:=M) X c.mroB;simp only[checkBuiltinCall,hk,a];refine Aa ?_;unfold isInstance;refine Aa (L0.at (L1.at ?_))
 repeat(first|assumption|wp_step)
def G3{tk:Tok}{Q:Fin->Shared->Prop}(c:dR K D)(X:K.In s.heap)(I:PySem.W.InstAt s.heap x ox D none)(hq:Q (.done (.ret (.ref D))) s):wpAny (model prog w) A (Builtin.«object.__getattribute__» ⟨[.ref x,.str "__class__" tk],[]⟩) Q E s:=by
 obtain⟨a,g,d,t,os⟩:=s;have hf:=G1 c.cls c.find c.spec c.tk;have L0:=I.type (M:=model prog w);have L1:=PySem.W.looks_find (M:=model prog w) X I hf;unfold Builtin.«object.__getattribute__»
 repeat(first|with_reducible refine Aa (L0.at ?_)|with_reducible refine Aa (L1.at ?_)|wp_step)
 exact PySem.W.class_get (s:=⟨a,g,d,t,os⟩) X I c.mro (Ac hq)
def G4{Q:Option Value->Shared->Prop}(c:dR K D)(X:K.In s.heap)(I:PySem.W.InstAt s.heap x ox D none)(h:Q (some (.ref D)) {s with toks:=s.toks+1}):wpAny (model prog w) A (getAttr? (.ref x) "__class__") Q E s:=by
 obtain⟨a,g,d,t,os⟩:=s;have L0:=I.type (M:=model prog w);have L1:=PySem.W.looks_findIn (M:=model prog w) X c.ga;have L2:=PySem.W.looks_findIn (M:=model prog w) X c.gt;have FA:=F.excAttr_ValueError;have b:=FA.ga.bind (.ref x);have e:(Value.builtin "BaseException.__getattribute__" == Value.builtin "object.__getattribute__")=false:=δ
 unfold getAttr? getAttrBy? getAttrBy;refine Aa (wpAny_mkText (Aa (wpAny_attempt (AI (Aa (L0.at (Aa (L1.at ?_))))))));dsimp only;rw[if_neg (by rw[e,Bool.and_false];decide)];unfold getAttrByItsOwn hookBefore;rw[if_pos (show onTheHeap (.ref D)=true from rfl)];refine Aa (L2.at ?_);refine Aa (wpAny_attempt (AI ?_));unfold callGetattribute boundAndCalled;rw[Bool.false_and,if_neg Au,b];refine Aa (Ac ?_);refine wpAny_call (codeAny_call_builtin FA.ga.plain F.entry_bexc_ga (G2 (s:=⟨a,g,d,t+1,os⟩) c X I (G3 (s:=⟨a,g,d,t+1,os⟩) c X I ?_)));exact PySem.W.handed_on rfl (Ac h)
end
def G5{K:Ae}{x D:Addr}{ox:Obj}(c:dR K D):PySem.W.KitX K (.ref x) (.ref D) (fun h=>PySem.W.InstAt h x ox D none) where
 ty:=fun _ _ _ I=>I.type
 it:=fun _ _ X _=>by
  obtain⟨d,a⟩:=Option.isSome_iff_exists.mp c.cls;unfold PySem.W.clsIn at a;split at a
  ·rename_i c' d' cd' gU ho
   intro i j l s' k q;unfold isType loadHead;exact Aa (wpAny_loadPart (k _ _ (X _ _ ho)) (Ac q))
  ·cases a
 ne:=fun h tp dd f n g X b=>by
  obtain⟨d,a⟩:=Option.isSome_iff_exists.mp c.cls;refine Bool.eq_false_iff.mpr fun q=>?_;have e:D=tp:=Value.ref.inj (beq_iff_eq.mp q);subst e;unfold PySem.W.clsIn at a;split at a
  ·rename_i c' d' cd' gU ho
   have z:=(X _ _ ho).symm.trans b;cases z
  ·cases a
 ca:=fun X I k=>G4 c X I k
section
variable{X:Cx}
def Bv{c:V}{a:Value}{b:Bool}{C:Addr}(g:∀u,RelV c u->u=a)(i:dR X.K C)(e:Ba X.K (.ref C) a=some b):bU X (.builtin "isinstance") (fun xs H Q=>∃x,xs=[.ref x,c]/\H x=some (dw x C)/\Q (.bl b) H):=by
 intro aa s σ H xs us Q I r h;obtain⟨x,rfl,hx,q⟩:=h;obtain⟨u,j,rfl,d,f⟩:=vals2 r;obtain rfl:=g _ f;cases(show u=Value.ref x from d);obtain⟨⟨o,p⟩,_⟩:=(show zC X.prog X.w H s.heap x (dw x C) from I.hok x _ hx);exact PySem.W.kia_one (G5 i) I.kIn p e (fun z=>nomatch z) fun tk=>⟨.bl b,H,I.tok _,rfl,q⟩
end
structure zbU(k:Nat)(A:Around):Prop where
 dp:A.depth+3*k+5<recursionLimit
 un:A.units+16*k+200<cLine
def Room.mark{k:Nat}{A:Around}(r:Room k A)(v:Option Value):zbU k (A.mark v):=⟨r.dp,r.un⟩
def zbU.deeper{k:Nat}{A:Around}(r:zbU (k+1) A)(env:Env):zbU k (A.deeper env):=
 ⟨by have:=r.dp;show A.depth+1+3*k+5<_;omega,by have:=r.un;show A.units+3+16*k+200<_;omega⟩
def zbU.depth{k:Nat}{A:Around}(r:zbU k A):A.depth<recursionLimit:=by have:=r.dp;omega
def zbU.units{k:Nat}{A:Around}(r:zbU k A):A.units+64<cLine:=by have:=r.un;omega
structure mm(P:Program)(w:World)(K:Ae)(mg:Str->Option Value)(base:Heap)(k:Nat)(f:Addr)(fd:FuncData)(ps:List Str)(sp:Sp):Prop where
 len:∀vs H Q E,sp vs H Q E->vs.length=ps.length
 run:∀(A:Around)(outer:List Env)(s:Shared)(H:Hp)(args:Args)(us:List Value)(vs:List V)(Q:VK)(E:XK),zbU k A->Env0 P w K mg base A outer s H->BindsTo s fd args (ps.zip us)->Vals vs us->sp vs H Q E->
  codeAny (model P w) A (.call (.ref f) args) (CR aC outer P w H s Q E) s
abbrev mq(P:Program)(w:World)(K:Ae)(mg:Str->Option Value)(base:Heap)(N:List Str)(ah:Str)(scope:Scope)(f:Addr)(cd:Value)(A:Around)(outer:List Env)(s:Shared)(H:Hp)(E:XK):Cx:=
 {a0 aC P w K mg base N ah scope f cd A outer s H E with calm:=false,xe:=fun _ _=>False}
def G6{P:Program}{w:World}{K:Ae}{mg:Str->Option Value}{base:Heap}{N ps:List Str}{b:Str}{scope:Scope}{f:Addr}{c:Value}{A:Around}{outer:List Env}{s d:Shared}{H:Hp}{E:XK}{us:List Value}{vs:List V}(S:zw N ps scope)(a:Env0 P w K mg base A outer s H)(e:vs.length=ps.length)(r:Vals vs us)(x:InCallC s s⁻¹ (bindL (envOfC b scope s⁻¹ f c).kindOf (ps.zip us) fun _=>none) (cellsFrom (s⁻¹+1) scope.names []) (bindC (envOfC b scope s⁻¹ f c).kindOf (ps.zip us) fun _=>none) d):Inv (mq P w K mg base N b scope f c A outer s H E) [] (start N vs) H d:=by
 have I:Inv (a0 aC P w K mg base N b scope f c {A with handled:=none} outer s H E) [] (start N vs) H d:=xy (A:={A with handled:=none}) S rfl ⟨a.frames,a.mod,a.bs,a.bsz,a.funs,a.frf,a.hok,a.bare⟩ e r x;exact⟨⟨I.ok.mod,I.ok.kind,I.ok.glob,I.ok.blt,I.ok.above,I.ok.inj,I.ok.has,I.ok.cab,(fun z=>nomatch z),Around.frames_deeper a.frames,I.ok.stk,I.ok.exf,I.ok.bs,I.ok.bsz,I.ok.noex,I.ok.exfs,I.ok.funs,I.ok.frf⟩,I.os,I.bare,I.base,I.loc,I.cell,I.free,I.freeC,I.pin,I.hok,I.len⟩
def G7{P:Program}{w:World}{K:Ae}{mg:Str->Option Value}{base:Heap}{k:Nat}{f:Addr}{name a:Str}{i:Arguments}{body:List Stmt}{scope:Scope}{j kV l p c ct Y:Value}{z od:Option Addr}{G:Array (Option Value)}{N ps:List Str}{sp:Sp}(lk:K.lookup f=some ⟨Y,od,.func (PySem.W.fnOf name a i body scope j kV l p z c ct),G⟩)(L:PySem.W.codeIn K c a=true)(S:zw N ps scope)(len:∀vs H Q E,sp vs H Q E->vs.length=ps.length)(aL:∀(A:Around)(outer:List Env)(s:Shared)(H:Hp)(vs:List V)(Q:VK)(E:XK),zbU k (A.deeper (envOfC a scope s⁻¹ f c))->sp vs H Q E->
   ∃t,PSs (mq P w K mg base N a scope f c A outer s H E) body t/\t {nx:=fun _ H'=>Q .non H',rt:=Q} (start N vs) H):
  mm P w K mg base (k+1) f (PySem.W.fnOf name a i body scope j kV l p z c ct) ps sp:=by
 refine⟨len,fun A outer s H args us vs Q E hr d hb r C=>?_⟩;have T:=len _ _ _ _ C;have F:K.In s.heap:=d.mod.kin.keeps fun b o e=>(d.bs b o e).1;have U:s.heap.NoLimit:=d.mod.nolimit.keeps fun b o e=>(d.bs b o e).1;have X:∀y∈ps.zip us,scope.names.lookup y.1=some .local\/(scope.names.lookup y.1=some .cell/\((cellsFrom (s⁻¹+1) scope.names []).lookup y.1).isSome=true):=fun⟨n,v⟩ hy=>by
  rcases S.par n (List.of_mem_zip hy).1 with q|q
  ·exact .inl q
  ·exact .inr ⟨q,PySem.W.cellsFrom_some _ _ _ (.inl q)⟩
 refine codeAny_call_function hr.depth (F _ _ lk) rfl S.co S.gen rfl (PySem.W.codeRec_of F L) (hb _ _ _ _ ?_);refine wpAny_newFunctionEnv_cells S.kind X fun env he D x=>?_;subst he;refine⟨U.keeps x.toInCall.keep,codeAny_func ?_⟩;obtain⟨t,O,hq⟩:=aL A outer s H vs Q E (hr.deeper _) C;have I:Inv (mq P w K mg base N a scope f c A outer s H E) [] (start N vs) H D:=G6 S d T r x;refine A9 (O [] D (start N vs) H _ I hq) (fun M s' hs=>?_) fun e s' hs=>hs.elim;have fin:∀{g:St}{H':Hp}{v:V}{u:Value},Inv (mq P w K mg base N a scope f c A outer s H E) [] g H' s'->RelV v u->Q v H'->CE outer P w H s Q u s':=
  fun{g H' v u} J h q=>⟨v,H',J.os,J.bare,J.base,J.hok,h,q⟩
 cases M with
 |ret u=>
  obtain⟨v,g,H',J,h,q⟩:=hs;exact fin J h q
 |next=>
  obtain⟨g,H',J,q⟩:=hs;exact fin (v:=V.non) (u:=Value.none) J rfl q
 |brk=>
  obtain⟨_,_,_,q⟩:=hs;exact Be q
 |cont=>
  obtain⟨_,_,_,q⟩:=hs;exact Be q
def Fun.okN{P:Program}{w:World}{K:Ae}{mg:Str->Option Value}{base:Heap}{x b:Str}{st:Stmt}{f:Addr}{fd:FuncData}{N ps:List Str}{k:Nat}{sp:Sp}(F:Fun K x b st f fd)(S:zw N ps (ze st))(len:∀vs H Q E,sp vs H Q E->vs.length=ps.length)(e:∀(a:Value)(A:Around)(outer:List Env)(s:Shared)(H:Hp)(vs:List V)(Q:VK)(E:XK),zbU k (A.deeper (envOfC b (ze st) s⁻¹ f a))->sp vs H Q E->
   ∃t,PSs (mq P w K mg base N b (ze st) f a A outer s H E) (zL st) t/\t {nx:=fun _ H'=>Q .non H',rt:=Q} (start N vs) H):mm P w K mg base (k+1) f fd ps sp:=by
 obtain⟨g,h,kV,i,j,l,a,ct,o,rfl,lk,d⟩:=F.ex;exact G7 lk d S len fun A outer s H vs Q E hr c=>e a A outer s H vs Q E hr c
section
variable{X:Cx}{k:Nat}{f:Addr}{fd:FuncData}{ps:List Str}{sp:Sp}{dI:List V}{ds:List Value}{E:XK}{x:Str}{p pos:Pos}{e:Expr}{es:List Expr}{t:TA}
def G8(F:mm X.prog X.w X.K X.mg X.base k f fd ps sp)(hr:zbU k X.A)(g:Gl X x)(hm:X.mg x=some (.ref f))(hk:PySem.W.keepIn X.K (.ref f)=true)(hb:Binds X.K fd ps ds)(hd:Vals dI ds)(i:PA X (e::es) t)(j:(x==("__debug__":Str))=false:=by decide)(he:starEach (e::es) X.env=(false,eval e X.env)::starEach es X.env:=by rfl)(a:(backTo pos (starEach es X.env)).any (·.1)=false:=by rfl):PE X (.Call (.Name x p) (e::es) [] pos) (jY sp dI E t):=by
 intro aa s σ H Q I h;refine wpAny_Call_Name_kw (kQ I g hm ?_ j);refine PySem.W.callWith_K (h₀:=X.base) I.ok.mod.kin hk (aJ (i pos aa s σ H _ I h) fun us b ⟨vs,H1,I1,r,q⟩=>⟨I1.kIn,?_⟩) he a;have c:Vals (vs++dI) (us++ds):=r.append hd;have d:(us++ds).length=ps.length:=by rw[<-c.length];exact F.len _ _ _ _ q
 refine wpAny_call (Bc (F.run X.A X.stack b H1 ⟨us,[]⟩ (us++ds) (vs++dI) Q E hr I1.env0 (hb b us I1.kIn d) c q) fun r s' hq=>?_);cases r with
 |error e=>exact hq.elim
 |ok fl=>
  cases fl with
  |ret u=>exact I1.after hq
  |next=>exact Be hq
  |brk=>exact Be hq
  |cont=>exact Be hq
end
section
variable{X:Cx}
def pP:bU X (.builtin "isinstance") (fun xs H Q=>∃a ys,xs=[.ref a,.ty "list"]/\H a=some (.lst ys)/\Q (.bl true) H):=by
 intro aa s σ H xs us Q I r h;obtain⟨a,ys,rfl,b,q⟩:=h;obtain⟨u,e,rfl,c,d⟩:=vals2 r;cases d;exact xp I c (.lst b) (by first|rfl|kernel_rfl|decide +kernel) fun tk=>⟨.bl true,H,I.tok _,rfl,q⟩
def ints_get{ns:List Int}{a:List Value}(r:Vals (ns.map V.int) a){i:Nat}{v:Value}(h:a[i]?=some v):∃n t,ns[i]?=some n/\v=.int n t:=by
 have c:a.length=ns.length:=by rw[<-r.length,Ab]
 have hi:i<ns.length:=by rw[<-c];exact(List.getElem?_eq_some_iff.mp h).1
 have e:ns[i]?=some ns[i]:=Af hi;obtain⟨u,hu,b⟩:=r.get (show(ns.map V.int)[i]?=some (V.int ns[i]) by rw[Ak,e];rfl);rw[h] at hu;obtain rfl:=Al hu;obtain⟨t,rfl⟩:=b;exact⟨_,t,e,rfl⟩
def Bw{bt:Nat->Nat->Bool}{val:Nat->Int}(hb:∀i j,bt i j=decide (val j<val i)):∀k,argBest bt k<=k/\∀i,i<=k->val i<=val (argBest bt k)
 |0=>by
  rw[argBest.eq_1];exact⟨Ah _,fun i hi=>by have:i=0:=ω;rw[this];exact Bk _⟩
 |k+1=>by
  obtain⟨h1,h2⟩:=Bw hb k;rw[argBest.eq_2,hb]
  by_cases g:val (argBest bt k)<val (k+1)
  ·rw[if_pos (decide_eq_true g)]
   refine⟨Ah _,fun i hi=>?_⟩;rcases Nat.lt_or_ge i (k+1) with h|h
   ·have:=h2 i ω;omega
   ·have:i=k+1:=ω
    rw[this];exact Bk _
  ·rw[if_neg (fun z=>g (of_decide_eq_true z))]
   refine⟨Nat.le_succ_of_le h1,fun i hi=>?_⟩;rcases Nat.lt_or_ge i (k+1) with h|h
   ·exact h2 i ω
   ·have:i=k+1:=ω
    rw[this];omega
def v4(hc:X.calm=true):bU X (.builtin "max") (fun xs H Q=>∃(l:Addr)(ns:List Int),xs=[.ref l]/\SqL X.K H l (ns.map V.int)/\ns≠[]/\∀M,M∈ns->(∀a∈ns,a<=M)->Q (.int M) H):=by
 intro aa s σ H xs us Q I r h;obtain⟨l,ns,rfl,hq,o,q⟩:=h;obtain⟨u,rfl,F⟩:=vals1 r;cases F;obtain⟨c,g,G,_⟩:=I.list hq;have L:=I.ok.hd hc;have p:=G.isList;have d:l<s⁻¹:=by obtain⟨_,e,_⟩:=p;exact Ao e
 have N:c.length=ns.length:=by rw[<-g.length,Ab]
 have f:0<ns.length:=List.length_pos_iff.mpr o;refine call_max_walk (wpAny_pyIter_list p ?_);refine⟨s⁻¹,[s⁻¹,l],[s⁻¹],c.toArray.size,_,_,fun i j=>decide ((ns[j]?).getD 0<(ns[i]?).getD 0),rfl,Walks.list (A:=X.A.in1) L _ l (Ap d) c.toArray,
  ⟨⟨_,Ar _ rfl,rfl,rfl⟩,p.push _⟩,fun b hb=>?_,by rw[Ai,N];exact f,fun i j z C s' T U hi D x=>?_,fun v h' tk y hk=>?_⟩
 ·have w:b<=s⁻¹:=by
   simp only[List.mem_cons,List.not_mem_nil,or_false] at hb;rcases hb with rfl|rfl
   ·exact Ah _
   ·exact Nat.le_of_lt d
  exact Nat.lt_of_le_of_lt w (Ao (Ar _ rfl))
 ·obtain⟨m,t,e,rfl⟩:=ints_get g (show c[i]?=some z by simpa using hi)
  obtain⟨O,t',e',rfl⟩:=ints_get g (show c[j]?=some C by simpa using D);simp only[e,e',Option.getD_some] at x;exact gt_int x
 ·rw[Ai] at y
  obtain⟨P,J⟩:=Bw (bt:=fun i j=>decide ((ns[j]?).getD 0<(ns[i]?).getD 0)) (val:=fun i=>(ns[i]?).getD 0) (fun i j=>rfl) (c.length-1);obtain⟨m,t,e,rfl⟩:=ints_get g (show c[argBest (fun i j=>decide ((ns[j]?).getD 0<(ns[i]?).getD 0)) (c.length-1)]?=some v by simpa using y);refine⟨.int m,H,I.kept (LSm.kept_iter hk),⟨t,rfl⟩,q m (An e) fun a E=>?_⟩;obtain⟨i,hi⟩:=List.mem_iff_getElem?.mp E;have S:i<ns.length:=(List.getElem?_eq_some_iff.mp hi).1;have:=J i ω;simp only[hi,e,Option.getD_some] at this;exact this
abbrev zkk:V->List V->Hp->VK->Prop:=fun x vs H Q=>∃(l:Addr)(ys:List V)(y:V),x=.ref l/\vs=[y]/\H l=some (.lst ys)/\ys.all fC=true/\fC y=true/\Q (.int (ys.countP fun z=>eF z y)) H
abbrev zkC:V->List V->Hp->VK->Prop:=fun x vs H Q=>∃(l:Addr)(ys:List V)(y:V)(j:Nat),x=.ref l/\vs=[y]/\H l=some (.lst ys)/\ys.all fC=true/\fC y=true/\j<1000/\((ys[j]?).map fun z=>eF z y)=some true/\(∀m,m<j->((ys[m]?).map fun z=>eF z y)=some false)/\Q (.int j) H
def G9{x:V}{xs:List V}{us:List Value}(h:Vals xs us)(f:xs.all fC=true):us.countP (gT x)=xs.countP fun y=>eF y x:=by
 induction h with
 |nil=>rfl
 |cons r t ih=>
  rw[List.all_cons,AN] at f;rw[List.countP_cons,List.countP_cons,sg r f.1,ih f.2]
def Bx{x:V}{xs:List V}{us:List Value}(h:Vals xs us)(f:xs.all fC=true):∀m:Nat,(us[m]?).map (gT x)=(xs[m]?).map fun y=>eF y x:=by
 induction h with
 |nil=>intro m;simp
 |cons r t ih=>
  rw[List.all_cons,AN] at f;intro m;cases m with
  |zero=>simp[sg r f.1]
  |succ m=>simpa using ih f.2 m
def G_:j6 X "list.count" zkk:=by
 intro aa s σ H x vs v us Q I d f h;obtain⟨l,ys,y,rfl,rfl,i,a,j,q⟩:=h;cases d;obtain⟨u,rfl,o⟩:=f.one;obtain⟨z,b,c,r,w,e⟩:=I.lstM i;refine call_meets F.slot_list_count ⟨_,e,rfl⟩ F.entry_list_count (F.args_list_count_2 _ _) (SeqAt.list_countAt l b.toArray c none #[] u (gT y)) ⟨e,fun g hy=>?_,?_⟩
 ·exact sh o j r a g (by simpa using hy)
 ·have p:b.toArray.toList.countP (gT y)=ys.countP fun z=>eF z y:=G9 r a
  exact⟨.int (ys.countP fun z=>eF z y),H,I.tok _,⟨_,by rw[<-p]⟩,q⟩
def G':j6 X "list.index" zkC:=by
 intro aa s σ H x vs v us Q I g i h;obtain⟨l,ys,y,j,rfl,rfl,w,b,A,D,h1,h2,q⟩:=h;cases g;obtain⟨u,rfl,C⟩:=i.one;obtain⟨z,a,c,r,E,e⟩:=I.lstM w;have g1:=(Bx (x:=y) r b j).trans h1;have f:j<a.toArray.size:=by
  rcases Nat.lt_or_ge j a.length with q|q
  ·simpa using q
  ·rw[List.getElem?_eq_none q] at g1;cases g1
 have get:∀(m:Nat)(hm:m<a.toArray.size),(a[m]?).map (gT y)=some (gT y a.toArray[m]):=fun m hm=>by
  rw[Af (by simpa using hm)];rfl
 have d:(j:Int)<2 ^ 63-1:=by
  have h1:(j:Int)<1000:=ω
  have h2:(1000:Int)<2 ^ 63-1:=ξ
  omega
 refine call_meets F.slot_list_index ⟨_,e,rfl⟩ F.entry_list_index (F.args_list_index_2 _ _) (SeqAt.list_indexAt l a.toArray c none #[] u (gT y) j f d ?_ ?_) ⟨e,fun o hy=>?_,?_⟩
 ·exact Al ((get j f).symm.trans g1)
 ·intro m hm p
  exact Al ((get m hm).symm.trans ((Bx (x:=y) r b m).trans (h2 m p)))
 ·exact sh C A r b o (by simpa using hy)
 ·exact⟨.int j,H,I.tok _,⟨_,rfl⟩,q⟩
end
def Ha{K:Ae}{C S:Addr}(F:PySem.W.excIn K C i3 "ValueError.__new__"=true)(G:PySem.W.excIn K S i3 "ValueError.__new__"=true)(m:PySem.W.mroIn K C (.ref S)=some true):hY K C S:=by
 intro h X;obtain⟨bm,N,nm,e,bs,hdct,sn,sub,ab,col,dd,k0,k1,k2,k3,k5,H,_,I,d⟩:=vX X F;obtain⟨f,N',i,j,l,o,p,q,r,s,u,v,w,x,y,A,J,_,D,E⟩:=vX X G;refine⟨nm,e,N,bs,bm,hdct,sn,sub,ab,col,dd,k0,k1,k2,k3,k5,_,i,j,N',l,f,o,p,q,r,s,u,v,w,x,y,A,_,(d h X).1,(E h X).1,D _ ξ,?_⟩;have g:=(d h X).1;unfold PySem.W.mroIn at m;obtain⟨L,a,b⟩:=Option.bind_eq_some_iff.mp m;unfold PySem.W.clsIn at a;split at a
 ·rename_i c' d' cd' gU ho
  cases a;have z:=(X _ _ ho).symm.trans g;injection z with z
  have c:=congrArg Obj.data z;injection c with c
  subst c;split at b
  ·cases b
  ·exact Al b
 ·cases a
def Hb{K:Ae}{C:Addr}{bm:List Value}{n:String}(q:PySem.W.excIn K C bm n=true):(PySem.W.clsIn K C).isSome=true:=by
 unfold PySem.W.excIn at q;unfold PySem.W.clsIn;split at q
 ·rename_i ho;rw[ho];rfl
 ·cases q
def zcy(H:Hp)(c:Addr)(b:Str):Prop:=∃a vs t,H c=some (.frz a (.own 0))/\a.data=.fields vs/\vs[1]?=some (.str b t)
def Tab(H:Hp)(P:Addr)(pos:Pos)(a:Str):Prop:=
 H P=some (.tbl #[])\/∃c',H P=some (.tbl #[rawInt pos.line,rawInt pos.col,.ref c'])/\zcy H c' a
def zH(H H':Hp):Prop:=∀b o,(∀ps,o≠HO.tbl ps)->H b=some o->H' b=some o
def zH.refl(H:Hp):zH H H:=fun _ _ _ h=>h
def zH.trans{H H1 H2:Hp}(a:zH H H1)(b:zH H1 H2):zH H H2:=fun c o n h=>b c o n (a c o n h)
def Same.toN{H H':Hp}(a:Same H H'):zH H H':=fun c o _ h=>a c o h
def zcy.same{H H':Hp}{c:Addr}{q:Str}(x:zcy H c q)(a:zH H H'):zcy H' c q:=
 let ⟨oc,vs,t,e,r⟩:=x;⟨oc,vs,t,a _ _ (fun _ z=>nomatch z) e,r⟩
def Tab.same{H H':Hp}{P:Addr}{pos:Pos}{q:Str}(x:Tab H P pos q)(a:Same H H'):Tab H' P pos q:=by
 rcases x with e|⟨c,e,k⟩
 ·exact .inl (a _ _ e)
 ·exact .inr ⟨c,a _ _ e,k.same a.toN⟩
def Tab.keep{H H':Hp}{P:Addr}{pos:Pos}{q:Str}(x:Tab H P pos q)(a:zH H H')(k:∀ps,H P=some (.tbl ps)->H' P=some (.tbl ps)):Tab H' P pos q:=by
 rcases x with e|⟨c,e,b⟩
 ·exact .inl (k _ e)
 ·exact .inr ⟨c,k _ e,b.same a⟩
def zgs(H:Hp)(f:Addr)(a:Str)(args:Arguments)(body:Expr)(sc:Scope)(y:Str)(cc:Addr):Prop:=
 ∃b c' c,H f=some (.frz (PySem.W.kla_obj "<lambda>" a args body sc [(y,cc)] b c' c) (.own 0))/\zcy H c' a
def zgs.same{H H':Hp}{f:Addr}{b:Str}{args:Arguments}{body:Expr}{sc:Scope}{y:Str}{cc:Addr}(x:zgs H f b args body sc y cc)(a:zH H H'):zgs H' f b args body sc y cc:=
 let ⟨pm,c',cj,e,k⟩:=x;⟨pm,c',cj,a _ _ (fun _ z=>nomatch z) e,k.same a⟩
section
variable{X:Cx}{aa:Ψ}{σ:St}{H:Hp}{s:Shared}
def Inv.codeRec{c:Addr}{q:Str}(I:Inv X aa σ H s)(x:zcy H c q):s.heap.CodeRec (.ref c) q:=by
 obtain⟨a,vs,t,e,e1,e2⟩:=x;exact⟨c,a,vs,t,rfl,(I.hok _ _ e).1,e1,e2⟩
def pQ(X:Cx)(A:Around)(s:Shared)(H:Hp)(f:Addr)(a:Str)(sc:Scope)(p y:Str)(cc c':Addr):Cx where
 prog:=X.prog
 w:=X.w
 K:=X.K
 mg:=X.mg
 base:=X.base
 A:=A.deeper (PySem.W.envX a sc s⁻¹ f (.ref c') [(y,cc)])
 N:=[p,y]
 s₀:=s
 H₀:=H
 env:=PySem.W.envX a sc s⁻¹ f (.ref c') [(y,cc)]
 outer:=X.stack
 stack:=PySem.W.envX a sc s⁻¹ f (.ref c') [(y,cc)]::X.stack
 ex:=[]
 calm:=X.calm
 fn:=fun _=>false
 pn:=[]
 xe:=fun _ _=>False
structure Bz(p y:Str)(sc:Scope):Prop where
 kind:sc.kind=.function
 co:sc.isCoroutine=false
 gen:sc.isGenerator=false
 loc:sc.names.lookup p=some .local
 fre:sc.names.lookup y=some .free
 nocell:∀x∈sc.names,x.2≠.cell
 only:∀x,sc.names.lookup x=some .free->x=y
def Hc{A:Around}{f:Addr}{C:Str}{args:Arguments}{body:Expr}{sc:Scope}{p y:Str}{cc:Addr}{iy:Nat}{va vy:V}{u:Value}{te:TE}{Q:VK}(I:Inv X aa σ H s)(g:Env0 X.prog X.w X.K X.mg X.base A X.stack s H)(hA:A.handled=X.A.handled)(hd:A.depth<recursionLimit)(L:zgs H f C args body sc y cc)(S:Bz p y sc)(hc:X.env.cells.lookup y=some cc)(hN:X.N[iy]?=some y)(lX:σ[iy]?=some (some vy))(T:X.env.kindOf y=some .cell\/X.env.kindOf y=some .free)(hb:∀M c' O,bindArgs (PySem.W.kla_fn "<lambda>" C args body sc [(y,cc)] M (.ref c') O) ⟨[u],[]⟩=pure [(p,u)])(hu:RelV va u)(aL:∀c',PE (pQ X A s H f C sc p y cc c') body te)(h:te [some va,some vy] H Q):codeAny (model X.prog X.w) A (.call (.ref f) ⟨[u],[]⟩) (fun r s'=>∃v,r=.ok (.ret v)/\CE X.stack X.prog X.w H s Q v s') s:=by
 obtain⟨M,c',O,ef,ec⟩:=L;have hf:=(I.hok _ _ ef).1;have bE:=I.codeRec ec;obtain⟨m,hm,hl⟩:=I.loc;obtain⟨P,ry,ly⟩:=hl iy y vy hN lX (T.elim (fun z=>.inr (.inl z)) fun z=>.inr (.inr z));have aG:s.heap.IsCell cc (some P):=by
  rcases ly with ⟨k,_⟩|⟨_,c,e1,e2⟩
  ·rcases T with z|z<;>(rw[k] at z;cases z)
  ·rw[hc] at e1;cases e1;exact e2
 have j:H cc=none:=I.freeC y cc hc;refine PySem.W.kla_callFunE hd hf rfl S.co S.gen rfl bE ?_;rw[hb M c' O];refine Ac (wpAny_newFunctionEnv S.nocell (fun x hx=>by rw[List.mem_singleton.mp hx];exact S.loc) (fun G U Y=>?_) S.kind);have E:∀b o,s.heap.get? b=some o->G.get? b=some o:=fun b o e=>Y.extBut b o (Ap (Ao e)) (Ad _ e);refine⟨I.nolimit.keeps E,?_⟩;show codeAny _ _ (.expr body (PySem.W.envX C sc s⁻¹ f (.ref c') [(y,cc)])) _ _;have F:∀x c,(PySem.W.envX C sc s⁻¹ f (.ref c') [(y,cc)]).cells.lookup x=some c->x=y/\c=cc:=fun x c e=>by
  have e':([(y,cc)]:List (Str×Addr)).lookup x=some c:=e;rw[AY] at e';cases hx:x==y with
  |true=>rw[hx] at e';cases e';exact⟨eq_of_beq hx,rfl⟩
  |false=>rw[hx] at e';cases e'
 have D:([(y,cc)]:List (Str×Addr)).lookup y=some cc:=by rw[AY,beq_self_eq_true]
 have d:G.IsCell cc (some P):=by
  obtain⟨o,e1,e2⟩:=aG;exact⟨o,E _ _ e1,e2⟩
 have J:Inv (pQ X A s H f C sc p y cc c') [] [some va,some vy] H {s with heap:=G,toks:=s.toks+[(p,u)].length}:=by
  have l:∀b:Addr,b∉(pQ X A s H f C sc p y cc c').ex:=fun b z=>absurd (show b∈([]:List Addr) from z) (by simp);refine⟨⟨g.mod,S.kind,rfl,rfl,Ah _,fun a b c h1 h2=>?_,fun x hx=>?_,fun x c h _=>(by cases h),fun hc=>?_,Around.frames_deeper g.frames,.inr ⟨rfl,rfl⟩,fun b z=>absurd z (l b),g.bs,g.bsz,fun b _ _=>l b,fun b z=>absurd z (l b),g.funs,g.frf⟩,
   rfl,g.bare,Un.kept E,⟨_,U,fun i x v h1 h2 h3=>?_⟩,fun x c h=>?_,g.hok.fresh (Ah _),fun x c h=>?_,fun p hp=>absurd (show p∈([]:Ψ) from hp) (by simp),g.hok.kept E,rfl⟩
  ·exact(F _ _ h1).1.trans (F _ _ h2).1.symm
  ·rcases hx with hx|hx
   ·exact absurd rfl (S.nocell _ (PySem.mem_of_lookup (show sc.names.lookup x=some .cell from hx)))
   ·obtain rfl:=S.only x hx
    exact⟨cc,D⟩
  ·exact hA.trans (I.ok.hd hc)
  ·match i,h1,h2 with
   |0,h1,h2=>
    obtain rfl:=Al h1;obtain rfl:=Al (Al h2);exact⟨u,hu,.inl ⟨S.loc,by simp⟩⟩
   |1,h1,h2=>
    obtain rfl:=Al h1;obtain rfl:=Al (Al h2);exact⟨P,ry,.inr ⟨.inr S.fre,cc,D,d⟩⟩
   |i+2,h1,h2=>exact nomatch (show(none:Option Str)=some x from h1)
  ·obtain⟨rfl,rfl⟩:=F _ _ h
   exact⟨_,d⟩
  ·obtain⟨rfl,rfl⟩:=F _ _ h
   exact j
 refine PySem.W.kla_codeExpr (A9 (aL c' [] _ _ H Q J h) (fun v s' hs=>?_) fun _ _ z=>Be z);obtain⟨v',H',J',rv,q⟩:=hs;exact⟨v,rfl,v',H',J'.os,J'.bare,J'.base,J'.hok,rv,q⟩
end
def BM(mg:Str->Option Value)(base:Heap):Prop:=∃bm o,mg "__builtins__"=some (.ref bm)/\bm≠builtinsNs/\bm≠mainGlobals/\base.get? bm=some o/\o.cls=.type "module"/\o.dict=some builtinsNs/\o.data=.plain
def v6(P:Addr)(a:Str)(args:Arguments)(body:Expr)(sc:Scope)(pos:Pos)(y:Str)(cc:Addr):TE:=fun _ H Q=>Tab H P pos a/\∀f H',zH H H'->(∀b ps,b≠P->H b=some (.tbl ps)->H' b=some (.tbl ps))->Tab H' P pos a->zgs H' f a args body sc y cc->Q (.ref f) H'
section
variable{X:Cx}{aa:Ψ}{σ:St}{H:Hp}{s:Shared}
def Hd{ps:Array Value}{P c':Addr}{j fo:Obj}{h':Heap}{tk:Nat}{more:Array Value}(I:Inv X aa σ H s)(f:H P=some (.tbl ps))(hx:Heap.ExtBut P s.heap h')(g:s⁻¹<=c')(h:c'<h'.objs.size)(q:h'.get? c'=some j)(r:h'.get? P=some (PySem.W.tabObj (ps++more)))(w:fo.isFreed=false):Inv X aa σ (upd (upd (upd H P (.tbl (ps++more))) c' (.frz j (.own 0))) h'.objs.size (.frz fo (.own 0))) {s with heap:=h'.push fo,toks:=tk}:=by
 have i:∀b o,b≠P->s.heap.get? b=some o->(h'.push fo).get? b=some o:=fun b o n e=>Ad _ (hx b o n e);have F:P<s⁻¹:=I.hok.lt f;have p:∀{b o},s.heap.get? b=some o->b≠c'/\b≠h'.objs.size:=fun e=>⟨Ap (Az (Ao e) g),Ap (Nat.lt_trans (Az (Ao e) g) h)⟩;have c:∀{b o},H b=some o->b≠c'/\b≠h'.objs.size:=fun e=>⟨Ap (Az (I.hok.lt e) g),Ap (Nat.lt_trans (Az (I.hok.lt e) g) h)⟩;have l:∀{b},H b=none->b≠P:=fun n z=>by rw[z,f] at n;cases n
 have a:∀{b},b≠P->b≠c'->b≠h'.objs.size->(upd (upd (upd H P (.tbl (ps++more))) c' (.frz j (.own 0))) h'.objs.size (.frz fo (.own 0))) b=H b:=fun n1 n2 y=>by rw[zh y,zh n2,zh n1]
 have A:c'≠h'.objs.size:=Ap h;have C:P≠c':=(c f).1;have D:P≠h'.objs.size:=(c f).2;refine I.call' (ch:=[]) rfl ⟨fun b o e n _ _=>i b o (l n) e,fun b o e n _ _=>⟨o.slots,i b o (l n) e⟩,fun b o e n _=>?_,fun b o e _=>?_,fun b xs e=>?_,fun b o u e=>?_,fun b E e=>?_⟩ (fun b u e=>?_) I.bare (fun b z=>nomatch z)
 ·rw[a (l n) (p e).1 (p e).2];exact n
 ·by_cases hb:b=P
  ·subst hb;exact⟨_,Ad _ r⟩
  ·exact⟨o,i b o hb e⟩
 ·rw[a (fun z=>by rw[z,f] at e;cases e) (c e).1 (c e).2];exact e
 ·rw[a (fun z=>by rw[z,f] at e;cases e) (c e).1 (c e).2];exact e
 ·by_cases hb:b=P
  ·subst hb
   rw[f] at e;cases e;exact⟨more,by rw[zh D,zh C,za]⟩
  ·exact⟨#[],by rw[a hb (c e).1 (c e).2,e];simp⟩
 ·by_cases x:b=h'.objs.size
  ·subst x
   rw[za] at e;cases e;exact⟨Ar _ w,fo,Ar _ w⟩
  ·rw[zh x] at e
   by_cases h2:b=c'
   ·subst h2
    rw[za] at e;cases e;exact⟨Ad _ q,j,Ad _ q⟩
   ·rw[zh h2] at e
    by_cases h1:b=P
    ·subst h1
     rw[za] at e;cases e;exact Ad _ r
    ·rw[zh h1] at e
     refine(I.hok b u e).stay (fun d v hd e'=>i d v ?_ e') (fun d e'=>?_) fun d xs e'=>?_
     ·rcases hd with rfl|hd
      ·exact h1
      ·exact fun z=>by rw[z,f] at hd;cases hd
     ·rw[a (fun z=>by rw[z,f] at e';cases e') (c e').1 (c e').2];exact e'
     ·rw[a (fun z=>by rw[z,f] at e';cases e') (c e').1 (c e').2];exact e'
def He{P c cc:Addr}{args:Arguments}{body:Expr}{sc:Scope}{pos:Pos}{y:Str}(hC:PySem.W.CodeHd X.base c P)(E:X.env.code=.ref c)(dH:BM X.mg X.base)(r:closureFor sc X.env=pure [(y,cc)])(ja:defaultsOf args X.env=([],[]):=by rfl):PE X (.Lambda args body sc pos) (v6 P (X.env.qual++"<lambda>") args body sc pos y cc):=by
 intro aa s σ H Q I ⟨F,h⟩;refine PySem.W.kla_eval ja ?_;have x:s.heap.Ns mainGlobals X.mg:=I.ok.mod.glob.keeps I.bk;have C:=hC.keeps I.bk;obtain⟨bm,ob,M,N,O,v,S,T,U⟩:=dH;have A:∀{j},H P=some (.tbl j)->s.heap.BuiltinsAt X.mg P:=fun{j} a=>⟨bm,ob,M,N,O,(fun z=>by have e:=(I.bs _ _ v).2;rw[z,a] at e;cases e),I.bk _ _ v,S,T,U⟩;have D:∀{j},H P=some (.tbl j)->s.heap.get? P=some (PySem.W.tabObj j):=fun a=>I.hok _ _ a;have uf:∀{j},H P=some (.tbl j)->mainGlobals≠P:=fun{j} a z=>by
  obtain⟨o,es,ep,e,d,_⟩:=I.ok.mod.glob;have e':=(I.bs _ _ e).2;rw[z,a] at e';cases e'
 rcases F with a|⟨c',a,w⟩
 ·refine PySem.W.kla_makeFunction r I.ok.glob x E C (D a) trivial rfl (uf a) (A a) fun c' g h' tk hx f i G L=>?_
  obtain⟨qE,u,vs,t,e2,Y,hd,hv⟩:=G;cases e2;have oF:P≠c':=Ap (Az (I.hok.lt a) f);have mJ:P≠h'.objs.size:=Ap (Nat.lt_trans (Az (I.hok.lt a) f) i);have uW:c'≠h'.objs.size:=Ap i;have J:=Hd (tk:=tk) (fo:=PySem.W.kla_obj "<lambda>" (X.env.qual++"<lambda>") args body sc [(y,cc)] ((X.mg "__name__").getD .none) c' g) I a hx f i Y L rfl;have p:∀b o,b≠P->H b=some o->(upd (upd (upd H P (.tbl (#[]++#[rawInt pos.line,rawInt pos.col,.ref c']))) c' (.frz u (.own 0))) h'.objs.size (.frz (PySem.W.kla_obj "<lambda>" (X.env.qual++"<lambda>") args body sc [(y,cc)] ((X.mg "__name__").getD .none) c' g) (.own 0))) b=some o:=fun b o n e=>by
   have l:=I.hok.lt e;rw[zh (Ap (Nat.lt_trans (Az l f) i)),zh (Ap (Az l f)),zh n];exact e
  have q:zcy (upd (upd (upd H P (.tbl (#[]++#[rawInt pos.line,rawInt pos.col,.ref c']))) c' (.frz u (.own 0))) h'.objs.size (.frz (PySem.W.kla_obj "<lambda>" (X.env.qual++"<lambda>") args body sc [(y,cc)] ((X.mg "__name__").getD .none) c' g) (.own 0))) c' (X.env.qual++"<lambda>"):=⟨u,vs,t,by rw[zh uW,za],hd,hv⟩;refine⟨.ref h'.objs.size,_,J,rfl,h _ _ (fun b o n e=>p b o (fun z=>by rw[z,a] at e;cases e;exact n _ rfl) e) (fun b ps n e=>p b _ n e) (.inr ⟨c',by rw[zh mJ,zh oF,za];simp,q⟩) ⟨_,c',g,za,q⟩⟩
 ·have hf:codeAmong pos (#[rawInt pos.line,rawInt pos.col,.ref c']:Array Value).toList=some (.ref c'):=by simp[codeAmong,rawInt]
  refine PySem.W.kla_makeFunctionHit r I.ok.glob x E C (D a) trivial hf (A a) fun g h' tk hk hsz=>?_;have J:Inv X aa σ (upd H h'.objs.size (.frz {cls:=.type "function",data:=.func (PySem.W.kla_fn "<lambda>" (X.env.qual++"<lambda>") args body sc [(y,cc)] ((X.mg "__name__").getD .none) (.ref c') g)} (.own 0))) {s with heap:=h'.push {cls:=.type "function",data:=.func (PySem.W.kla_fn "<lambda>" (X.env.qual++"<lambda>") args body sc [(y,cc)] ((X.mg "__name__").getD .none) (.ref c') g)},toks:=tk}:=
   I.laid (fun b o e=>Ad _ (hk b o e)) hsz ⟨Ar _ rfl,_,Ar _ rfl⟩
  have hn:H h'.objs.size=none:=I.hok.fresh hsz;have p:=Same.new (o:=HO.frz {cls:=.type "function",data:=.func (PySem.W.kla_fn "<lambda>" (X.env.qual++"<lambda>") args body sc [(y,cc)] ((X.mg "__name__").getD .none) (.ref c') g)} (.own 0)) hn;exact⟨.ref h'.objs.size,_,J,rfl,h _ _ p.toN (fun b ps _ e=>p b _ e) (Tab.same (.inr ⟨c',a,w⟩) p) ⟨_,c',g,za,w.same p.toN⟩⟩
end
def Hf{P:Program}{w:World}{K:Ae}{mg M:Str->Option Value}{CX:dL}{k:Nat}{fa a:Addr}{fd:FuncData}{x:Str}{sp:Sp}{c:Shared}{vs:List Value}{ns:List Int}{tabs:List (Addr×Addr)}(O:K.In c.heap)(N:c.heap.Ns mainGlobals mg)(hb:c.heap.Ns builtinsNs M)(mP:∀x:Str,x≠"__name__"->M x=A5 x)(iQ:c.heap.NoLimit)(hg:c.gens=#[])(dH:∃bm ob,mg "__builtins__"=some (.ref bm)/\bm≠builtinsNs/\c.heap.get? bm=some ob/\ob.cls=.type "module"/\ob.dict=some builtinsNs/\ob.data=.plain)(hT:PySem.W.TabsAt tabs c.heap)(ky:PySem.W.noTabs K=true)(E:c.heap.get? a=some {cls:=.type "list",data:=.seq vs.toArray})(hi:IntsAre vs ns)(hl:ns.length<=sizeLine)(hr:Room k callerA)(F:∀base:Heap,K.In base->base.Ns mainGlobals mg->BM mg base->PySem.W.CodeAll tabs base->FnOk P w K mg base CX k fa fd [x] sp)(fh:∀(s:Shared)(u:Value),BindsTo s fd ⟨[u],[]⟩ [(x,u)])(cb:∀H:Hp,SqL K H a (ns.map V.int)->(∀q∈tabs,H q.2=some (.tbl #[]))->sp [.ref a] H (fun v _=>v=.bl true) fun _ _ _=>False)(iu:∀H e s',CX [] H c (fun _ _ _=>False) e s'->False):codeAny (model P w) callerA (.call (.ref fa) ⟨[.ref a],[]⟩) (fun r s'=>r=.ok (.ret (.bool true))/\OldK c.heap s'.heap/\s'.os=c.os/\AllBare s'.gens) c:=by
 have X:=sG hi;have i7:=hi.length;have A:∀{b},b∈tabs.map (·.2)->c.heap.get? b=some (PySem.W.tabObj #[]):=fun hb=>by
  obtain⟨q,hq,rfl⟩:=List.mem_map.mp hb;exact(hT q hq).2
 have Y:a∉tabs.map (·.2):=fun z=>by
  have e:=A z;rw[E] at e;cases e
 have KT:∀{b},b∈tabs.map (·.2)->K.lookup b=none:=fun{b} hb=>by
  cases e:K.lookup b with
  |none=>rfl
  |some o=>
   have e1:=O b o e;rw[A hb] at e1;have h2:=List.all_eq_true.mp ky (b,o) (PySem.W.mem_of_lookupK e);obtain rfl:=Al e1;exact absurd (show false=true from h2) Au
 have j:∀H:Hp,(∀b,b∉tabs.map (·.2)->H b=none\/∃o xs,H b=some (.frz o (.lst xs)))->(∀b,b∈tabs.map (·.2)->H b=some (.tbl #[]))->SqL K H a (ns.map V.int)->HOk P w H c.heap->(∀b,H b≠none->b=a\/b∈tabs.map (·.2))->(H a≠none->K.lookup a=none)->
   codeAny (model P w) callerA (.call (.ref fa) ⟨[.ref a],[]⟩) (fun r s'=>r=.ok (.ret (.bool true))/\OldK c.heap s'.heap/\s'.os=c.os/\AllBare s'.gens) c:=by
  intro H hO Q hS C S hK;have I:∀{b:Addr}{o:Obj},c.heap.get? b=some o->H b=none->(bv c.heap H).get? b=some o:=fun e n=>xa e n;have p:∀{b:Addr}{o:Obj},c.heap.get? b=some o->(∀xs n,o.data≠.seq xs n)->o≠PySem.W.tabObj #[]->H b=none:=fun{b o} e d d2=>by
   cases q:H b with
   |none=>rfl
   |some u=>
    rcases S b (by rw[q];simp) with e'|e'
    ·subst e'
     rw[E] at e;cases e;exact absurd rfl (d _ _)
    ·rw[A e'] at e;cases e
     exact absurd rfl d2
  have f:∀{b:Addr}{m:Str->Option Value},c.heap.Ns b m->(bv c.heap H).Ns b m:=fun{b m} ⟨o,es,ep,e,d,r⟩=>⟨o,es,ep,I e (p e (fun _ _ z=>by rw[d] at z;cases z) fun z=>by rw[z] at d;cases d),d,r⟩;have kK:K.In (bv c.heap H):=fun b o e=>I (O b o e) (by
   cases q:H b with
   |none=>rfl
   |some u=>
    rcases S b (by rw[q];simp) with e'|e'
    ·subst e'
     rw[hK (by rw[q];simp)] at e;cases e
    ·rw[KT e'] at e;cases e)
  have hM:Mod K mg (bv c.heap H):=⟨kK,f N,⟨M,f hb,mP⟩,let ⟨mc,h1,h2⟩:=iQ;⟨mc,f h1,h2⟩⟩;have e0:Env0 P w K mg (bv c.heap H) callerA [] c H:=⟨rfl,hM,fun b o e=>xb e,Nat.le_of_eq (w_ _ _),trivial,fun b hb=>absurd (show b∈([]:List Addr) from hb) (by simp),C,.of_eq hg⟩;obtain⟨bm,ob,b1,b2,G,b4,b5,y⟩:=dH;have tj:bm≠mainGlobals:=fun q=>by
   obtain⟨o,es,ep,e,hd,_⟩:=N;rw[q,e] at G;cases G;rw[hd] at y;cases y
  have L:BM mg (bv c.heap H):=⟨bm,ob,b1,b2,tj,I G (p G (fun _ _ z=>by rw[y] at z;cases z) fun z=>by rw[z] at y;cases y),b4,b5,y⟩;have n6:PySem.W.CodeAll tabs (bv c.heap H):=.of fun q hq=>by
   obtain⟨o,qo,nS,tf,kj,tg,qv,text,tt,e1,J,T,r⟩:=(hT q hq).1;exact⟨o,qo,nS,tf,kj,tg,qv,text,tt,I e1 (p e1 (fun _ _ z=>by rw[T] at z;cases z) fun z=>by rw[z] at J;cases J),J,T,r⟩
  refine Bc ((F _ kK (f N) L n6).run callerA [] c H ⟨[.ref a],[]⟩ [.ref a] [.ref a] _ _ hr e0 (fh c (.ref a)) (.cons rfl .nil) (cb H hS fun q hq=>Q _ (List.mem_map_of_mem hq))) fun r s' h=>?_;cases r with
  |error e=>exact(iu H e s' h).elim
  |ok fl=>
   cases fl with
   |next=>exact Be h
   |brk=>exact Be h
   |cont=>exact Be h
   |ret u=>
    obtain⟨v,H',os,D,un,U,r',q⟩:=h;have q':v=.bl true:=q;subst q';obtain rfl:u=Value.bool true:=r';have keep:∀b o,b∉tabs.map (·.2)->c.heap.get? b=some o->s'.heap.get? b=some o:=fun b o hb e=>by
     cases q:H b with
     |none=>exact un.keep b o e q (by intro z;exact absurd (show b∈([]:List Addr) from z) (by simp)) (by simp)
     |some u=>
      rcases hO b hb with z|⟨ob,xs,z⟩
      ·rw[q] at z;cases z
      ·have z2:=un.frzs b ob _ z
       obtain⟨e1,_⟩:=C b _ z;obtain⟨e2,_⟩:=U b _ z2;rw[e] at e1;cases e1;exact e2
    have l:∀b,b∈tabs.map (·.2)->∃more,s'.heap.get? b=some (PySem.W.tabObj more):=fun b hb=>by
     obtain⟨more,e⟩:=un.tbls b _ (Q b hb);exact⟨#[]++more,U b _ e⟩
    refine⟨rfl,⟨fun b o e=>?_,fun b o e=>?_⟩,os,D⟩
    ·by_cases hb:b∈tabs.map (·.2)
     ·obtain⟨more,e2⟩:=l b hb
      have e1:=A hb;rw[e] at e1;cases e1;obtain⟨q,hq,rfl⟩:=List.mem_map.mp hb;exact .inr (.inl ⟨((hT q hq).1.tab (hT q hq).2).isCodeTable,rfl,#[],more,rfl,by simpa using e2⟩)
     ·exact .inl (keep b o hb e)
    ·by_cases hb:b∈tabs.map (·.2)
     ·obtain⟨more,e2⟩:=l b hb
      exact⟨_,e2⟩
     ·exact⟨o,keep b o hb e⟩
 cases hk:K.lookup a with
 |some o=>
  have e:=O a o hk;rw[E] at e;cases e;refine j (fun b=>if b∈tabs.map (·.2) then some (.tbl #[]) else none) (fun b hb=>.inl (if_neg hb)) (fun b hb=>if_pos hb) (.inr ⟨_,vs.toArray,_,hk,rfl,rfl,rfl,by rw[Ai,i7];exact hl,by simpa using X⟩) (fun b u z=>?_) (fun b z=>?_) fun z=>absurd (if_neg Y) z
  ·by_cases hb:b∈tabs.map (·.2)
   ·have g:=(if_pos hb).symm.trans z
    cases g;exact A hb
   ·have g:=(if_neg hb).symm.trans z
    cases g
  ·by_cases hb:b∈tabs.map (·.2)
   ·exact .inr hb
   ·exact absurd (if_neg hb) z
 |none=>
  refine j (fun b=>if b∈tabs.map (·.2) then some (.tbl #[]) else if b=a then some (.frz {cls:=.type "list",data:=.seq vs.toArray} (.lst (ns.map V.int))) else none) (fun b hb=>?_) (fun b hb=>if_pos hb) (.inl (.inr ⟨{cls:=.type "list",data:=.seq vs.toArray},(if_neg Y).trans (if_pos rfl)⟩)) (fun b u z=>?_) (fun b z=>?_) fun _=>hk
  ·by_cases i:b=a
   ·exact .inr ⟨_,_,(if_neg hb).trans (if_pos i)⟩
   ·exact .inl ((if_neg hb).trans (if_neg i))
  ·by_cases hb:b∈tabs.map (·.2)
   ·have g:=(if_pos hb).symm.trans z
    cases g;exact A hb
   ·by_cases i:b=a
    ·have g:=((if_neg hb).trans (if_pos i)).symm.trans z
     cases g;subst i;exact⟨E,by rw[Ab];exact hl,vs,_,X,E⟩
    ·have g:=((if_neg hb).trans (if_neg i)).symm.trans z
     cases g
  ·by_cases hb:b∈tabs.map (·.2)
   ·exact .inr hb
   ·by_cases i:b=a
    ·exact .inl i
    ·exact absurd ((if_neg hb).trans (if_neg i)) z
def Hg{l:PySem.W.OpenLaw}{n k:Nat}{q:Program}{N:List Str}{XP:(Str->Option Value)->Heap->Prop}{r:World->Heap->Prop}{d:DefRec}{K:Params->Ae}{CX:dL}{sp:World->Sp}{x:Str}{tabs:List (Addr×Addr)}{xs:List Str}(O:l.most=some n)(P:n<=sizeLine)(Q:d.params.defaults=[])(hr:Room k callerA)(S:∀(w:World)(h:Heap),r w h->(K w.params).In h)(U:∀p,PySem.W.noTabs (K p)=true)(hx:∀p,xs.map (PySem.W.tabIn (K p))=tabs.map some)(X:∀x∈xs,((recsOf q).find? (fun e=>e.name==x)).isSome=true)(F:∀(w:World)(mg:Str->Option Value)(fa:Addr)(h:Heap),(K w.params).In h->h.Ns mainGlobals mg->mg d.name=some (.ref fa)->
   ∃fd:FuncData,(∀(s:Shared)(u:Value),BindsTo s fd ⟨[u],[]⟩ [(x,u)])/\
    ∀base:Heap,(K w.params).In base->base.Ns mainGlobals mg->BM mg base->PySem.W.CodeAll tabs base->FnOk l.prog w (K w.params) mg base CX k fa fd [x] (sp w))
  (cb:∀(w:World)(H:Hp)(a:Addr)(ns:List Int),ns.length<=n->SqL (K w.params) H a (ns.map V.int)->(∀q∈tabs,H q.2=some (.tbl #[]))->sp w [.ref a] H (fun v _=>v=.bl true) fun _ _ _=>False)
  (iu:∀(H:Hp)(s:Shared)(e:Value)(s':Shared),CX [] H s (fun _ _ _=>False) e s'->False) :
  PySem.W.WalkO q N XP r l.row.toRowW d [] (fun f vs=>PySem.call f vs):=by
 refine Att.xV O Q fun w s₀ j mg mb fa o pm cd bh a vs ns G Y ho hd bE z A C c D=>?_;have i:=S w _ Y;obtain⟨fd,hb,L⟩:=F w mg fa _ i G.T.g z;have hT:PySem.W.TabsAt tabs j.heap:=fun t E=>by
  have h1:some t∈xs.map (PySem.W.tabIn (K w.params)):=by rw[hx];exact List.mem_map_of_mem E
  obtain⟨y,hy,e⟩:=List.mem_map.mp h1;obtain⟨dr,M⟩:=Option.isSome_iff_exists.mp (X y hy);exact PySem.W.tab_of G.T i M e
 exact Hf i G.T.g G.T.b G.T.builtins G.T.nolimit D G.T.bmain hT (U _) A C (AF c P) hr L hb (fun H I J=>cb w H a ns c I J) fun H e s'=>iu H j e s'
end L2
end
section
namespace Tim
open PySem PyProof.Rows
def Tl(τ:Keyed->Int)(xs:Array Keyed)(m:Nat):Prop:=∀i j,i<j->m<=j->j<xs.size->R τ xs i<R τ xs j
def St(ρ τ:Keyed->Int)(xs:Array Keyed)(lo hi:Nat):Prop:=∀i j,lo<=i->i<j->j<hi->R ρ xs i=R ρ xs j->R τ xs i<R τ xs j
def As(ρ τ:Keyed->Int)(xs:Array Keyed)(lo hi:Nat):Prop:=∀i j,lo<=i->i<j->j<hi->R ρ xs i=R ρ xs j->R τ xs j<R τ xs i
def Tl.mono{τ:Keyed->Int}{xs:Array Keyed}{m n:Nat}(h:Tl τ xs m)(d:m<=n):Tl τ xs n:=fun i j a b c=>h i j a ω c
def Hh(xs:Array Keyed)(i j m:Nat):(mirror xs i j m).size=xs.size:=(mirror_perm xs i j m).size_eq
def Tl.mir{τ:Keyed->Int}{xs:Array Keyed}{a b m:Nat}(h:Tl τ xs m)(hb:b<=xs.size)(e:b<=m):Tl τ (mirror xs a b ((b-a) / 2)) m:=fun i j c d hs=>by
 rw[Hh] at hs;rw[zQ hb,zQ hb,if_neg (show ¬(a<=j/\j<b) from ω)];split
 ·exact h _ _ ω d hs
 ·exact h _ _ c d hs
section
variable{prog:Program}{w:World}{A:Around}{E:Ω}{s:Shared}{κ:SortKind}{a₀:Array Keyed}{ρ τ:Keyed->Int}
abbrev jQ(κ:SortKind)(a₀:Array Keyed)(ρ τ:Keyed->Int)(lo ak:Nat)(st:SortSt)(Q:Option Nat->SortSt->Prop):Prop:=
 ∀m af,B κ a₀ af->Pre lo st af->1<=m->m<=ak->aF ρ (arrOf af) lo (lo+m)->St ρ τ (arrOf af) lo (lo+m)->Tl τ (arrOf af) (lo+m)->Q (some m) af
def BB(C:dB prog w A s κ a₀ ρ){st o:SortSt}{lo n d:Nat}{Q:Option Nat->SortSt->Prop}(v:lo+d<=a₀.size)(h1:1<=n)(g:n<=d)(p:B κ a₀ st)(x:Pre lo o st)(hs:fi ρ (arrOf st) lo (lo+n))(y:As ρ τ (arrOf st) lo (lo+n))(z:Tl τ (arrOf st) (lo+n))(h:jQ κ a₀ ρ τ lo d o Q):wpS (model prog w) A E s (jx lo n d) Q st:=by
 unfold jx;have hsz:lo+n<=(arrOf st).size:=by rw[p.size];omega
 refine wpS_bind (iI ?_);have f:B κ a₀ (setArr st (mirror (arrOf st) lo (lo+n) ((lo+n-lo) / 2))):=p.setArr (mirror_perm _ _ _ _);have b:Tl τ (arrOf (setArr st (mirror (arrOf st) lo (lo+n) ((lo+n-lo) / 2)))) (lo+n):=z.mir hsz (Ah _);refine wpS_bind (nR C v h1 g f ?_ fun m D q e _=>wpS_pure (h m _ f (x.trans (.mir hsz (Ah _))) ω q e (fun i j r a u he=>?_) (b.mono ω)))
 ·intro i j r a u
  show R ρ (mirror (arrOf st) lo (lo+n) ((lo+n-lo) / 2)) i<=R ρ (mirror (arrOf st) lo (lo+n) ((lo+n-lo) / 2)) j;rw[zQ hsz,zQ hsz,if_pos ω,if_pos ω];exact hs _ _ ω ω ω
 ·by_cases l:lo+n<=j
  ·exact b i j a l (by rw[f.size];omega)
  ·have c:R ρ (mirror (arrOf st) lo (lo+n) ((lo+n-lo) / 2)) i=R ρ (mirror (arrOf st) lo (lo+n) ((lo+n-lo) / 2)) j:=he
   show R τ (mirror (arrOf st) lo (lo+n) ((lo+n-lo) / 2)) i<R τ (mirror (arrOf st) lo (lo+n) ((lo+n-lo) / 2)) j;rw[zQ hsz,zQ hsz,if_pos ω,if_pos ω] at c;rw[zQ hsz,zQ hsz,if_pos ω,if_pos ω];exact y _ _ ω ω ω c.symm
structure Grp(ρ τ:Keyed->Int)(xs:Array Keyed)(lo x aK:Nat):Prop where
 as:As ρ τ xs lo (lo+x-(aK+1))
 inc:∀i j,lo+x-(aK+1)<=i->i<j->j<lo+x->R τ xs i<R τ xs j
 str:∀i,lo<=i->i<lo+x-(aK+1)->R ρ xs (lo+x-1)<R ρ xs i
 tl:Tl τ xs (lo+x)
def Grp.turned{xs:Array Keyed}{lo x a:Nat}(g:Grp ρ τ xs lo x a)(hsz:lo+x<=xs.size)(hq:a+1<=x)(he:∀i,lo+x-(a+1)<=i->i<lo+x->R ρ xs i=R ρ xs (lo+x-1)):As ρ τ (mirror xs (lo+x-(a+1)) (lo+x) ((lo+x-(lo+x-(a+1))) / 2)) lo (lo+x):=fun i j e b f hr=>by
 rw[zp hsz he,zp hsz he] at hr;rw[zQ hsz,zQ hsz]
 by_cases c:j<lo+x-(a+1)
 ·rw[if_neg ω,if_neg ω];exact g.as i j e b c hr
 ·by_cases d:i<lo+x-(a+1)
  ·have:=g.str i e d
   rw[he j ω f] at hr;omega
  ·rw[if_pos ω,if_pos ω]
   exact g.inc _ _ ω ω ω
def Grp.one{xs:Array Keyed}{lo x:Nat}(g:Grp ρ τ xs lo x 0):As ρ τ xs lo (lo+x):=fun i j d a e hr=>by
 by_cases c:j<lo+x-1
 ·exact g.as i j d a c hr
 ·have b:j=lo+x-1:=ω
  have:=g.str i d ω;rw[<-b] at this;omega
def Hi(C:dB prog w A s κ a₀ ρ){st J:SortSt}{lo n D:Nat}{Q:DescSt->SortSt->Prop}(Y:lo+D<=a₀.size)(h1:1<=n)(L:n<=D)(T:B κ a₀ st)(U:Pre lo J st)(hs:fi ρ (arrOf st) lo (lo+n))(W:Grp ρ τ (arrOf st) lo n 0)(h:∀m e b,B κ a₀ b->Pre lo J b->n<=m->m<=D->fi ρ (arrOf b) lo (lo+m)->e+1<=m->(∀i,lo+m-(e+1)<=i->i<lo+m->R ρ (arrOf b) i=R ρ (arrOf b) (lo+m-1))->Grp ρ τ (arrOf b) lo m e->Q (none,m,e) b):wpS (model prog w) A E s (ka lo n D) Q st:=by
 unfold ka;refine wpS_forRange (I:=fun x c b=>∃e,c=(none,x,e)/\B κ a₀ b/\Pre lo J b/\fi ρ (arrOf b) lo (lo+x)/\e+1<=x/\
   (∀i,lo+x-(e+1)<=i->i<lo+x->R ρ (arrOf b) i=R ρ (arrOf b) (lo+x-1))/\Grp ρ τ (arrOf b) lo x e) ?step ?fin ⟨0,rfl,T,U,hs,ω,fun i h1 h2=>by congr 1;omega,W⟩
 case fin=>
  rintro c b ⟨e,rfl,r,G,u,hq,he,g⟩;rw[show max n D=D from ω] at u hq he g ⊢;exact h D e b r G L (Ah _) u hq he g
 case step=>
  rintro x c b P X ⟨e,rfl,r,G,u,hq,he,g⟩;dsimp only;have hsz:lo+x<=(arrOf b).size:=by rw[r.size];omega
  refine wpS_bind (gX C r ω ω ?_)
  by_cases d:R ρ (arrOf b) (lo+x)<R ρ (arrOf b) (lo+x-1)
  ·simp only[d,decide_true,if_true]
   have l:∀xs:Array Keyed,(∀k,R ρ xs k=R ρ (arrOf b) k)->fi ρ xs lo (lo+(x+1)):=by
    intro xs hk i j H y N;rw[hk,hk]
    by_cases q:j<lo+x
    ·exact u i j H y q
    ·have z:j=lo+x:=ω
     subst z
     by_cases F:i=lo+x
     ·subst F;exact Bk _
     ·exact Int.le_trans (Int.le_of_lt d) (u i (lo+x-1) H ω ω)
   have o:∀xs:Array Keyed,(∀k,R ρ xs k=R ρ (arrOf b) k)->As ρ τ xs lo (lo+x)->Tl τ xs (lo+x)->Grp ρ τ xs lo (x+1) 0:=fun xs hk a t=>by
    refine⟨?_,fun i j h1 h2 O=>ω,fun i h1 h2=>?_,t.mono ω⟩
    ·rw[show lo+(x+1)-(0+1)=lo+x from ω];exact a
    ·rw[show lo+(x+1)-1=lo+x from ω,hk,hk]
     exact Int.lt_of_lt_of_le d (u i (lo+x-1) h1 ω ω)
   by_cases v:e>0
   ·rw[if_pos v]
    refine wpS_bind (iI (wpS_pure ⟨0,rfl,r.setArr (mirror_perm _ _ _ _),G.trans (.mir hsz ω),l _ (zp hsz he),ω,fun i h1 h2=>by congr 1;omega,o _ (zp hsz he) (g.turned hsz hq he) (g.tl.mir hsz (Ah _))⟩))
   ·rw[if_neg v]
    have S:e=0:=ω
    subst S;exact wpS_pure ⟨0,rfl,r,G,l _ (fun _=>rfl),ω,fun i h1 h2=>by congr 1;omega,o _ (fun _=>rfl) g.one g.tl⟩
  ·simp only[d,decide_false,Aj,if_false]
   refine wpS_bind (gX C r ω ω ?_)
   by_cases f:R ρ (arrOf b) (lo+x-1)<R ρ (arrOf b) (lo+x)
   ·simp only[f,decide_true,if_true]
    exact wpS_pure (h x e b r G P ω u hq he g)
   ·simp only[f,decide_false,Aj,if_false]
    have p:R ρ (arrOf b) (lo+x)=R ρ (arrOf b) (lo+x-1):=ω
    refine wpS_pure ⟨e+1,rfl,r,G,fun i j H y N=>?_,ω,fun i h1 h2=>?_,?_⟩
    ·by_cases q:j<lo+x
     ·exact u i j H y q
     ·have z:j=lo+x:=ω
      subst z
      by_cases F:i=lo+x
      ·subst F;exact Bk _
      ·rw[p];exact u i (lo+x-1) H ω ω
    ·rw[show lo+(x+1)-1=lo+x from ω]
     by_cases M:i=lo+x
     ·subst M;rfl
     ·rw[p];exact he i ω ω
    ·have hb:lo+(x+1)-(e+1+1)=lo+x-(e+1):=ω
     refine⟨by rw[hb];exact g.as,fun i j h1 h2 O=>?_,fun i h1 h2=>?_,g.tl.mono ω⟩
     ·by_cases q:j<lo+x
      ·exact g.inc i j ω h2 q
      ·exact g.tl i j h2 ω (by rw[r.size];omega)
     ·rw[show lo+(x+1)-1=lo+x from ω,p]
      exact g.str i h1 ω
def BC(C:dB prog w A s κ a₀ ρ){st u:SortSt}{lo n b:Nat}{Q:Option Nat->SortSt->Prop}(f:lo+b<=a₀.size)(l:n+1<=b)(z:B κ a₀ st)(D:Pre lo u st)(hs:fi ρ (arrOf st) lo (lo+(n+1)))(F:Grp ρ τ (arrOf st) lo (n+1) 0)(h:jQ κ a₀ ρ τ lo b u Q):wpS (model prog w) A E s (jy lo n b) Q st:=by
 unfold jy;refine wpS_bind (wpS_lift (wpAny_rule ⟨rfl,?_⟩));refine wpS_bind (Hi C f ω l z D hs F fun m o c d p G q r hq he g=>?_);dsimp only;have hsz:lo+m<=(arrOf c).size:=by rw[d.size];omega
 by_cases a:o>0
 ·rw[if_pos a]
  refine wpS_bind (iI (BB C f ω q (d.setArr (mirror_perm _ _ _ _)) (p.trans (.mir hsz ω)) ?_ (g.turned hsz hq he) (g.tl.mir hsz (Ah _)) h));intro i j v e x;show R ρ (mirror (arrOf c) _ _ _) j<=R ρ (mirror (arrOf c) _ _ _) i;rw[zp hsz he,zp hsz he];exact r i j v e x
 ·rw[if_neg a]
  have y:o=0:=ω
  subst y;exact BB C f ω q d p r g.one g.tl h
def Hj(C:dB prog w A s κ a₀ ρ){st:SortSt}{lo u:Nat}{Q:Option Nat->SortSt->Prop}(D:lo+u<=a₀.size)(h1:1<=u)(f:B κ a₀ st)(p:Tl τ (arrOf st) lo)(h:jQ κ a₀ ρ τ lo u st Q):wpS (model prog w) A E s (countRun' lo u) Q st:=by
 rw[xZ];refine wpS_bind (nR C D (Ah 1) h1 f (fun i j c b q=>?_) fun n G H x J=>?_)
 ·have:i=j:=ω
  subst this;exact Bk _
 dsimp only;have I:St ρ τ (arrOf st) lo (lo+n):=fun i j c b q _=>p i j b ω (by rw[f.size];omega)
 by_cases l:n=u
 ·rw[if_pos (by simpa using l)]
  exact wpS_pure (h n st f .refl G H x I (p.mono ω))
 ·rw[if_neg (by simpa using l)]
  have e:R ρ (arrOf st) (lo+n)<R ρ (arrOf st) (lo+n-1):=J.resolve_left l
  by_cases v:n>1
  ·rw[if_pos v]
   refine wpS_bind (gX C f ω ω ?_)
   by_cases d:R ρ (arrOf st) lo<R ρ (arrOf st) (lo+n-1)
   ·simp only[d,decide_true,if_true]
    exact wpS_pure (h n st f .refl G H x I (p.mono ω))
   ·simp only[d,decide_false,Aj,if_false]
    have hsz:lo+n<=(arrOf st).size:=by rw[f.size];omega
    have a:∀k,lo<=k->k<lo+n->R ρ (arrOf st) k=R ρ (arrOf st) (lo+n-1):=by
     intro k c hk;have M:=x lo k ω c hk;have N:=x k (lo+n-1) c ω ω;omega
    refine wpS_bind (iI (BC C D ω (f.setArr (mirror_perm _ _ _ _)) (.mir hsz (Ah _)) ?_ ⟨?_,?_,?_,?_⟩ h))
    ·intro i j c b q
     show R ρ (mirror (arrOf st) _ _ _) j<=R ρ (mirror (arrOf st) _ _ _) i;rw[zp hsz a,zp hsz a]
     by_cases F:j<lo+n
     ·rw[a i ω ω,a j ω F];exact Bk _
     ·have y:j=lo+n:=ω
      subst y
      by_cases o:i=lo+n
      ·subst o;exact Bk _
      ·rw[a i ω ω];exact Int.le_of_lt e
    ·rw[show lo+(n+1)-(0+1)=lo+n from ω]
     intro i j c b q _;show R τ (mirror (arrOf st) _ _ _) j<R τ (mirror (arrOf st) _ _ _) i;rw[zQ hsz,zQ hsz,if_pos ω,if_pos ω];exact p _ _ ω ω ω
    ·intro i j h1 h2 L;omega
    ·intro i c hi
     show R ρ (mirror (arrOf st) _ _ _) _<R ρ (mirror (arrOf st) _ _ _) i;rw[zp hsz a,zp hsz a,show lo+(n+1)-1=lo+n from ω,a i c ω];exact e
    ·exact(p.mono (show lo<=lo+n from ω)).mir hsz (Ah _)|>.mono ω
  ·rw[if_neg v]
   have r:n=1:=ω
   subst r;refine BC C D ω f .refl ?_ ⟨?_,?_,?_,p.mono ω⟩ h
   ·intro i j c b q
    by_cases o:i=j
    ·subst o;exact Bk _
    ·have g:i=lo:=ω
     have z:j=lo+1:=ω
     subst g;subst z;exact Int.le_of_lt e
   ·intro i j c b q;omega
   ·intro i j h1 h2 L;omega
   ·intro i c hi
    have g:i=lo:=ω
    subst g;exact e
def Hk(C:dB prog w A s κ a₀ ρ){st:SortSt}{lo n ok:Nat}{Q:Bool->SortSt->Prop}(hn:lo+n<=a₀.size)(S:ok<=n)(rC:1<=ok)(T:B κ a₀ st)(hs:aF ρ (arrOf st) lo (lo+ok))(H:St ρ τ (arrOf st) lo (lo+ok))(U:Tl τ (arrOf st) (lo+ok))(h:∀a,B κ a₀ a->Pre lo st a->aF ρ (arrOf a) lo (lo+n)->St ρ τ (arrOf a) lo (lo+n)->Q true a):wpS (model prog w) A E s (binarySort' lo n ok) Q st:=by
 rw[binarySort'_eq];refine wpS_bind (wpS_mono (wpS_forRange (I:=fun k c a=>c=(none,())/\B κ a₀ a/\Pre lo st a/\aF ρ (arrOf a) lo (lo+min k n)/\St ρ τ (arrOf a) lo (lo+min k n)/\Tl τ (arrOf a) (lo+min k n))
  (Q:=fun c a=>c=(none,())/\B κ a₀ a/\Pre lo st a/\aF ρ (arrOf a) lo (lo+n)/\St ρ τ (arrOf a) lo (lo+n)) ?step ?fin ?init) ?post)
 case post=>
  rintro c a ⟨rfl,p,y,f,g⟩;exact wpS_pure (h a p y f g)
 case init=>
  rw[show min (max ok 1) n=ok from ω];exact⟨rfl,T,.refl,hs,H,U⟩
 case fin=>
  rintro c a ⟨hc,p,y,f,g,_⟩;rw[show min (max (max ok 1) n) n=n from ω] at f g;exact⟨hc,p,y,f,g⟩
 case step=>
  rintro k c a W X ⟨rfl,p,y,f,g,z⟩;rw[show min k n=k from ω] at f g z;have hk:lo+k<a₀.size:=ω
  refine wpS_bind (wpS_mono (wpS_forRange (I:=fun x c b=>b=a/\∃l r,c=(none,l,r)/\l<=r/\r<=k/\r-l<=k-x/\
    (∀i,i<l->R ρ (arrOf a) (lo+i)<=R ρ (arrOf a) (lo+k))/\(∀i,r<=i->i<k->R ρ (arrOf a) (lo+k)<R ρ (arrOf a) (lo+i)))
   (Q:=fun c b=>b=a/\∃l r,c=(none,l,r)/\l<=k/\
    (∀i,i<l->R ρ (arrOf a) (lo+i)<=R ρ (arrOf a) (lo+k))/\(∀i,l<=i->i<k->R ρ (arrOf a) (lo+k)<R ρ (arrOf a) (lo+i))) ?istep ?ifin ?iinit) ?ipost)
  case iinit=>exact⟨rfl,0,k,rfl,ω,ω,ω,fun i hi=>ω,fun i h1 h2=>ω⟩
  case ifin=>
   rintro c b ⟨rfl,l,r,rfl,O,F,hm,u,v⟩;have:l=r:=ω
   subst this;exact⟨rfl,l,l,rfl,F,u,v⟩
  case istep=>
   rintro x c b _ Y ⟨rfl,l,r,rfl,O,F,hm,u,v⟩;dsimp only
   by_cases D:l ≥ r
   ·rw[if_pos D]
    have:l=r:=ω
    subst this;exact wpS_pure ⟨rfl,l,l,rfl,F,u,v⟩
   ·rw[if_neg D]
    refine wpS_bind (gX C p hk ω ?_)
    by_cases e:R ρ (arrOf b) (lo+k)<R ρ (arrOf b) (lo+(l+r) / 2)
    ·simp only[e,decide_true,if_true]
     refine wpS_pure ⟨rfl,l,(l+r) / 2,rfl,ω,ω,ω,u,fun i h1 h2=>?_⟩;exact Int.lt_of_lt_of_le e (f _ _ ω ω ω)
    ·simp only[e,decide_false,Aj,if_false]
     refine wpS_pure ⟨rfl,(l+r) / 2+1,r,rfl,ω,ω,ω,fun i h1=>?_,v⟩;exact Int.le_trans (f (lo+i) (lo+(l+r) / 2) ω ω ω) (Int.not_lt.mp e)
  case ipost=>
   rintro c b ⟨rfl,l,r,rfl,tD,u,v⟩;show wpS _ _ _ _ (do moveDown' (lo+k) (lo+l);pure (ForInStep.yield (none,()))) _ _;rw[moveDown'_eq];have q:lo+k<(arrOf b).size:=by rw[p.size];exact hk
   have P:∀i,lo<=i->i<lo+l->R ρ (arrOf b) i<=R ρ (arrOf b) (lo+k):=fun i h1 h2=>by
    have:=u (i-lo) ω;rwa [show lo+(i-lo)=i from ω] at this
   have M:∀i,lo+l<=i->i<lo+k->R ρ (arrOf b) (lo+k)<R ρ (arrOf b) i:=fun i h1 h2=>by
    have:=v (i-lo) ω ω;rwa [show lo+(i-lo)=i from ω] at this
   refine wpS_bind (wpS_modify (wpS_pure ⟨rfl,p.setArr (bubble_perm _ _ _),y.trans (.bub q ω ω),?_,?_,?_⟩))
   ·rw[show min (k+1) n=k+1 from ω]
    intro i j N o L;show R ρ (bubble (arrOf b) (lo+k) (lo+k-(lo+l))) i<=R ρ (bubble (arrOf b) (lo+k) (lo+k-(lo+l))) j;rw[iH q ω,iH q ω,show lo+k-(lo+k-(lo+l))=lo+l from ω]
    repeat' split
    all_goals first
     |(exfalso;omega)
     |exact Bk _
     |exact P _ ω ω
     |exact Int.le_of_lt (M _ ω ω)
     |exact f _ _ ω ω ω
   ·rw[show min (k+1) n=k+1 from ω]
    intro i j N o L he;have d:R ρ (bubble (arrOf b) (lo+k) (lo+k-(lo+l))) i=R ρ (bubble (arrOf b) (lo+k) (lo+k-(lo+l))) j:=he;show R τ (bubble (arrOf b) (lo+k) (lo+k-(lo+l))) i<R τ (bubble (arrOf b) (lo+k) (lo+k-(lo+l))) j;rw[iH q ω,iH q ω,show lo+k-(lo+k-(lo+l))=lo+l from ω] at d ⊢
    by_cases i1:i=lo+l
    ·rw[if_pos i1,if_neg ω,if_pos ω] at d
     have:=M (j-1) ω ω;omega
    ·by_cases i2:lo+l<i
     ·rw[if_neg i1,if_pos ω,if_neg ω,if_pos ω] at d ⊢
      exact g _ _ ω ω ω d
     ·by_cases J:j=lo+l
      ·rw[if_neg i1,if_neg ω,if_pos J] at d ⊢
       exact z _ _ ω ω ω
      ·by_cases j2:lo+l<j
       ·rw[if_neg i1,if_neg ω,if_neg J,if_pos ω] at d ⊢
        exact g _ _ ω ω ω d
       ·rw[if_neg i1,if_neg ω,if_neg J,if_neg ω] at d ⊢
        exact g _ _ ω ω ω d
   ·rw[show min (k+1) n=k+1 from ω]
    intro i j o L hs;have G:j<(arrOf b).size:=by
     have:=(bubble_perm (arrOf b) (lo+k) (lo+k-(lo+l))).size_eq;have wp:j<(bubble (arrOf b) (lo+k) (lo+k-(lo+l))).size:=hs;omega
    show R τ (bubble (arrOf b) (lo+k) (lo+k-(lo+l))) i<R τ (bubble (arrOf b) (lo+k) (lo+k-(lo+l))) j;rw[iH q ω,iH q ω,show lo+k-(lo+k-(lo+l))=lo+l from ω,if_neg (show ¬j=lo+l from ω),if_neg (show ¬(lo+l<j/\j<=lo+k) from ω)];split
    ·exact z _ _ ω ω G
    ·split
     ·exact z _ _ ω ω G
     ·exact z _ _ o ω G
def Hl(C:dB prog w A s κ a₀ ρ){st:SortSt}{Q:Unit->SortSt->Prop}(J:B κ a₀ st)(hp:AZ st=#[])(h1:1<=a₀.size)(v:a₀.size<64)(Y:Tl τ (arrOf st) 0)(h:∀a,B κ a₀ a->aF ρ (arrOf a) 0 a₀.size->St ρ τ (arrOf a) 0 a₀.size->Q () a):wpS (model prog w) A E s sortRuns' Q st:=by
 rw[sortRuns'_eq];refine wpS_bind (wpS_get ?_);dsimp only;have X:minRun' a₀.size a₀.size 0=a₀.size:=by
  obtain⟨f,hf⟩:∃f,a₀.size=f+1:=⟨a₀.size-1,ω⟩;have:minRun' (f+1) a₀.size 0=a₀.size:=by rw[minRun'_succ,if_pos v];rfl
  rwa [<-hf] at this
 simp only[J.size,X];refine wpS_bind (wpS_mono (wpS_forRange
  (I:=fun x c a=>(x=0/\c=(none,0)/\B κ a₀ a/\AZ a=#[]/\Tl τ (arrOf a) 0)\/(1<=x/\c=(none,a₀.size)/\B κ a₀ a/\(AZ a).size<=1/\aF ρ (arrOf a) 0 a₀.size/\St ρ τ (arrOf a) 0 a₀.size))
  (Q:=fun c a=>c=(none,a₀.size)/\B κ a₀ a/\(AZ a).size<=1/\aF ρ (arrOf a) 0 a₀.size/\St ρ τ (arrOf a) 0 a₀.size) ?step ?fin (.inl ⟨rfl,rfl,J,hp,Y⟩)) ?post)
 case fin=>
  rintro c a (⟨hx,_,_⟩|⟨_,hc,o⟩)
  ·omega
  ·exact⟨hc,o⟩
 case step=>
  rintro x c a _ hx (⟨rfl,rfl,r,F,u⟩|⟨rS,rfl,o⟩)
  ·dsimp only
   rw[if_neg ω];simp only[Nat.sub_zero,Nat.min_self];refine wpS_bind (Hj C ω ω r u fun m i y P2 L M j l N=>?_);dsimp only;have tl:∀d,B κ a₀ d->AZ d=#[]->aF ρ (arrOf d) 0 a₀.size->St ρ τ (arrOf d) 0 a₀.size->B κ a₀ (setPending d ((AZ d).push (0,a₀.size,0)))/\(AZ (setPending d ((AZ d).push (0,a₀.size,0)))).size<=1/\aF ρ (arrOf (setPending d ((AZ d).push (0,a₀.size,0)))) 0 a₀.size/\St ρ τ (arrOf (setPending d ((AZ d).push (0,a₀.size,0)))) 0 a₀.size:=
    fun d b p q O=>⟨⟨b.perm,b.kind,b.failed⟩,by show((AZ d).push _).size<=1;rw[p];exact Ah 1,q,O⟩
   by_cases g:m<a₀.size
   ·rw[if_pos g]
    refine wpS_bind (wpS_lift (wpAny_rule ⟨rfl,?_⟩));refine wpS_bind (Hk C ω M L y j l N fun d P P3 z D=>?_);simp only[Bf,Aj,if_false];refine wpS_bind (wpS_get ?_);have G:AZ d=#[]:=by rw[P3.pend,P2.pend];exact F
    have hb:(AZ d).back?=none:=by rw[G];rfl
    rw[hb];dsimp only;simp only[Nat.zero_add] at z D ⊢;exact wpS_bind (wpS_modify (wpS_pure (.inr ⟨ω,rfl,tl d P G z D⟩)))
   ·rw[if_neg g]
    have hm:m=a₀.size:=ω
    subst hm;refine wpS_bind (wpS_get ?_);have H:AZ i=#[]:=by rw[P2.pend];exact F
    have hb:(AZ i).back?=none:=by rw[H];rfl
    rw[hb];dsimp only;simp only[Nat.zero_add] at j l ⊢;exact wpS_bind (wpS_modify (wpS_pure (.inr ⟨ω,rfl,tl i y H j l⟩)))
  ·dsimp only
   rw[if_pos (Ah _)];exact wpS_pure ⟨rfl,o⟩
 case post=>
  rintro c a ⟨rfl,r,T,U,W⟩;dsimp only;refine wpS_bind (wpS_mono (wpS_forRange (I:=fun _ c e=>e=a/\c=(none,())) (Q:=fun c e=>e=a/\c=(none,())) ?_ (fun _ _ S=>S) ⟨rfl,rfl⟩) ?_)
  ·rintro x c e _ _ ⟨rfl,rfl⟩
   refine wpS_bind (wpS_get ?_);rw[if_pos T];exact wpS_pure ⟨rfl,rfl⟩
  ·rintro c e ⟨rfl,rfl⟩
   exact wpS_pure (h _ r U W)
end
end Tim
end
section
namespace aF
open PySem PyProof.Rows PySem.W
def eP(ns:List Int):Ξ:=ns.mapIdx fun i n=>[n,(i:Int)]
def Hm(ns:List Int):(eP ns).length=ns.length:=by unfold eP;rw[List.length_mapIdx]
def v_(ns:List Int)(i:Nat):(eP ns)[i]?=(ns[i]?).map fun n=>[n,(i:Int)]:=by unfold eP;rw[List.getElem?_mapIdx]
section
variable{prog:Program}{w:World}{A:Around}{E:Ω}{s:Shared}{good:Heap->Prop}{us vs:List Value}{ns:List Int}
noncomputable def fP(vs:List Value)(p:Keyed):Int:=(fF vs ((Bb vs.length).map fun i:Nat=>[(i:Int)]) p.2).headD 0
def BD(f:vs.Nodup){p:Keyed}{i:Nat}(h:vs[i]?=some p.2):fP vs p=i:=by
 unfold fP;have hi:=(List.getElem?_eq_some_iff.mp h).1;rw[gY (us:=vs) (ls:=(Bb vs.length).map fun i:Nat=>[(i:Int)]) (l:=[(i:Int)]) (fun a b u l m h1 h2 d c=>by
  have e:a=b:=(List.getElem?_inj (List.getElem?_eq_some_iff.mp h1).1 f).mp (h1.trans h2.symm);subst e;rw[d] at c;exact Al c) h (by rw[Ak,List.getElem?_range hi];rfl)]
 rfl
def Hn(B:By prog w A good us (ns.map fun n=>[n]))(v:us.length=vs.length)(W:vs.length<64)(L:vs.Nodup)(M:good s.heap){P:PySem.Fin->Shared->Prop}{G:Unit×SortSt->Sem PySem.Fin}(h:∀a,Out (eP ns) vs ((arrOf a).map (·.2)).toList->(arrOf a).size=vs.length->failedOf a=none->wpAny (model prog w) A (G (PUnit.unit,a)) P E s):wpAny (model prog w) A (if vs.toArray.size<2 then(pure general' >>= fun kind=>(if vs.toArray.size<2 then pure () else sortRuns').run (SortSt.mk' kind (us.toArray.zip vs.toArray) #[] 7 none) >>= G)
   else(keyKind' us.toArray >>= fun kind=>(if vs.toArray.size<2 then pure () else sortRuns').run (SortSt.mk' kind (us.toArray.zip vs.toArray) #[] 7 none) >>= G)) P E s:=by
 have d:(us.toArray.zip vs.toArray).size=vs.length:=by rw[Array.size_zip,Ai,Ai];omega
 have C:ns.length=vs.length:=by have:=B.len;rw[Ab] at this;omega
 by_cases h2:vs.toArray.size<2
 ·rw[if_pos h2]
  refine Aa (Ac ?_);rw[if_pos h2];rw[StateT.run_pure];refine Aa (Ac ?_)
  try dsimp only
  rw[Ai] at h2;exact h (SortSt.mk' general' (us.toArray.zip vs.toArray) #[] 7 none) (x_ (by rw[Hm];exact C) v h2) d rfl
 ·rw[if_neg h2,if_neg h2]
  rw[Ai] at h2;obtain⟨κ,k1,k2⟩:=B.ask ω;refine Aa (k1 s _ E M ?_);have D:(us.toArray.zip vs.toArray).toList=us.zip vs:=by simp
  have Q:Tim.Tl (fP vs) (us.toArray.zip vs.toArray) 0:=fun i j f _ g=>by
   have l:∀k,k<vs.length->Tim.R (fP vs) (us.toArray.zip vs.toArray) k=k:=fun k hk=>by
    have e:(us.toArray.zip vs.toArray)[k]?=some (us[k]'ω,vs[k]):=by
     rw[<-AT,D,aW,Af ω,Af hk];rfl
    rw[Tim.cN e];exact BD L (Af hk)
   rw[l i ω,l j ω];omega
  have run:wpS (model prog w) A E s sortRuns' (fun _ a=>(arrOf a).Perm (us.toArray.zip vs.toArray)/\failedOf a=none/\Tim.aF (fG us (ns.map fun n=>[n])) (arrOf a) 0 vs.length/\Tim.St (fG us (ns.map fun n=>[n])) (fP vs) (arrOf a) 0 vs.length) (SortSt.mk' κ (us.toArray.zip vs.toArray) #[] 7 none):=by
   refine Tim.Hl (κ:=κ) (a₀:=us.toArray.zip vs.toArray) (ρ:=fG us (ns.map fun n=>[n])) (τ:=fP vs) ⟨fun x y hx hy X Y hq=>?_⟩ ⟨Array.Perm.refl _,rfl,rfl⟩ rfl (by rw[d];omega) (by rw[d];omega) Q fun a b N O=>⟨b.perm,b.failed,by rw[<-d];exact N,by rw[<-d];exact O⟩;obtain⟨i,e1,_⟩:=jz v hx;obtain⟨j,e2,_⟩:=jz v hy;have hi:i<(ns.map fun n=>[n]).length:=by rw[<-B.len];exact(List.getElem?_eq_some_iff.mp e1).1
   have g:j<(ns.map fun n=>[n]).length:=by rw[<-B.len];exact(List.getElem?_eq_some_iff.mp e2).1
   have f1:(ns.map fun n=>[n])[i]?=some (ns.map fun n=>[n])[i]:=Af hi;have f2:(ns.map fun n=>[n])[j]?=some (ns.map fun n=>[n])[j]:=Af g;refine k2 i j _ _ _ _ e1 e2 f1 f2 s X Y M ?_;unfold fG at hq;rw[gY B.fn e1 f1,gY B.fn e2 f2,nT (A1 hi) (A1 g)] at hq;exact hq
  refine Aa (A9 run ?_ fun _ _ e=>e)
  ·rintro⟨⟨⟩,a⟩ s' ⟨rfl,hp,hf,hs,z⟩
   try dsimp only
   refine h a ?_ (by rw[hp.size_eq];exact d) hf;have F:(arrOf a).toList.Perm (us.zip vs):=by
    have:=Array.perm_iff_toList_perm.mp hp
    rwa [D] at this
   have hsz:(arrOf a).size=vs.length:=by rw[hp.size_eq];exact d
   have o:∀p∈us.zip vs,∃(i:Nat)(n:Int),us[i]?=some p.1/\vs[i]?=some p.2/\ns[i]?=some n:=fun p hp=>by
    obtain⟨i,e1,e2⟩:=jz v (p:=p) (by rw[D];exact hp);have hi:i<ns.length:=by have:=(List.getElem?_eq_some_iff.mp e2).1;omega
    exact⟨i,ns[i],e1,e2,Af hi⟩
   have c:∀{u:Value}{i:Nat}{n:Int},us[i]?=some u->ns[i]?=some n->fF us (ns.map fun n=>[n]) u=[n]:=fun e1 e2=>gY B.fn e1 (by rw[Ak,e2];rfl);refine⟨(arrOf a).toList.map fun p=>([(fF us (ns.map fun n=>[n]) p.1).headD 0,fP vs p],p.2),?_,by rw[Array.toList_map,Am];rfl,?_⟩
   ·have e:(us.zip vs).map (fun p:Keyed=>([(fF us (ns.map fun n=>[n]) p.1).headD 0,fP vs p],p.2))=(eP ns).zip vs:=by
     apply List.ext_getElem?;intro i;rw[Ak,aW,aW,v_]
     by_cases hi:i<vs.length
     ·rw[Af (show i<us.length from ω),Af (show i<ns.length from ω),Af hi]
      show some ([(fF us (ns.map fun n=>[n]) us[i]).headD 0,fP vs (us[i],vs[i])],vs[i])=some ([ns[i],(i:Int)],vs[i]);rw[c (Af (show i<us.length from ω)) (Af (show i<ns.length from ω)),BD L (Af hi)]
      rfl
     ·rw[List.getElem?_eq_none (show us.length<=i from ω),List.getElem?_eq_none (show ns.length<=i from ω)];rfl
    rw[<-e];exact F.map _
   ·rw[AW,List.pairwise_iff_getElem]
    intro i j hi g f;rw[AQ] at hi g;have q:=hs i j (AK _) (Nat.le_of_lt f) ω;have r:=z i j (AK _) f ω;have H:(arrOf a)[i]?=some (arrOf a)[i]:=getElem?_pos (arrOf a) i hi;have I:(arrOf a)[j]?=some (arrOf a)[j]:=getElem?_pos (arrOf a) j g;rw[Tim.cN H,Tim.cN I] at q;rw[Tim.cN H,Tim.cN I,Tim.cN H,Tim.cN I] at r;simp only[Array.getElem_toList];generalize hpi:(arrOf a)[i]=pi at *;generalize hpj:(arrOf a)[j]=pj at *;obtain⟨i',n1,e1,e2,e3⟩:=o pi (F.mem_iff.mp (by rw[<-hpi];simp));obtain⟨j',n2,g1,g2,g3⟩:=o pj (F.mem_iff.mp (by rw[<-hpj];simp));unfold fG at q r;rw[c e1 e3,c g1 g3] at q r;rw[c e1 e3,c g1 g3];have S:[n1]∈ns.map fun n=>[n]:=List.mem_map.mpr ⟨n1,An e3,rfl⟩;have T:[n2]∈ns.map fun n=>[n]:=List.mem_map.mpr ⟨n2,An g3,rfl⟩;have U:=nT T S;show HT.lexLt [n2,fP vs pj] [n1,fP vs pi]=false;rw[HT.zv];have J:HT.lexLt [n2] [n1]=false:=by rw[<-U];exact decide_eq_false ω
    rw[HT.zv] at J
    by_cases e:n2=n1
    ·subst e
     rw[if_pos rfl,HT.zv];have:=r rfl;rw[if_neg ω];exact decide_eq_false ω
    ·rw[if_neg e] at J ⊢
     exact J
end
end aF
end
section
namespace L2
open PySem PySem.Spec PyProof.Rows
section
variable{X:Cx}{aa:Ψ}{σ:St}{H:Hp}{s:Shared}
def Ho{f l:Addr}{as:List Addr}{ns:List Int}{Q:Ω}(hu:X.A.units+64<cLine)(nd:as.Nodup)(I:Inv X aa σ H s)(hl:SqL X.K H l (as.map V.ref))(aM:ns.length=as.length)(h64:as.length<64)(run:∀s',Inv X aa σ H s'->∀(j:Nat) a n,as[j]?=some a->ns[j]?=some n->codeAny (model X.prog X.w) X.A.in1.in1 (.call (.ref f) ⟨[.ref a],[]⟩) (fun r C=>∃v,r=.ok (.ret v)/\CE X.stack X.prog X.w H s' (fun v H'=>v=.int n/\H'=H) v C) s')(h:∀D(U:List (List Int×Addr)) s',Inv X aa σ (upd H D (.lst (U.map fun q=>V.ref q.2))) s'->H D=none->U.Perm ((aF.eP ns).zip as)->U.Pairwise (fun a b=>HT.lexLt b.1 a.1=false)->Q (.ref D) s'):wpAny (model X.prog X.w) X.A (call (.builtin "sorted") [.ref l] [(Str.ofString "key",.ref f)]) Q X.xe s:=by
 obtain⟨ag,r1,p1,hz⟩:=I.list hl;have L:=r1.length;obtain rfl:=aD r1;rw[Ab] at L hz;have F:(as.map Value.ref).length<=sizeLine:=by rw[Ab];exact hz
 generalize hvs:as.map Value.ref=vs at p1 F;have lL:vs.length=as.length:=by rw[<-hvs,Ab]
 refine call_function_entry_kw kind_sorted plain_sorted entry_sorted (ksk_s1 _ _) ?_;unfold Builtin.«sorted»;refine Aa (m:=checkCount "sorted" 1 1 _) (Ac ?_);refine Aa (collect_list p1.isList ?_ F);refine Aa (wpAny_newList ?_ F);have hsz:((s.heap.push (seqObj "list" #[] 0)).update s⁻¹ (AA (·++vs.toArray))).objs.size=s⁻¹+1:=by
  rw[A4,size_push']
 have g:(((s.heap.push (seqObj "list" #[] 0)).update s⁻¹ (AA (·++vs.toArray))).push (seqObj "list" vs.toArray 0)).get? (s⁻¹+1)=some (seqObj "list" vs.toArray 0):=by
  rw[<-hsz];exact Ar _ rfl
 have keep:∀b o,s.heap.get? b=some o->(((s.heap.push (seqObj "list" #[] 0)).update s⁻¹ (AA (·++vs.toArray))).push (seqObj "list" vs.toArray 0)).get? b=some o:=fun b o q=>by
  have E:b<s⁻¹:=Ao q;rw[Heap.get?_push_ne _ _ _ (by rw[hsz];exact Ap (Nat.lt_succ_of_lt E)),Heap.get?_update_ne _ _ _ _ (Ap E),Heap.get?_push_ne _ _ _ (Ap E)];exact q
 show wpAny _ _ _ _ _ {s with heap:=((s.heap.push (seqObj "list" #[] 0)).update s⁻¹ (AA (·++vs.toArray))).push (seqObj "list" vs.toArray 0)};rw[hsz];generalize hA:((s.heap.push (seqObj "list" #[] 0)).update s⁻¹ (AA (·++vs.toArray))).push (seqObj "list" vs.toArray 0)=d at g keep ⊢;have I1:Inv X aa σ H {s with heap:=d}:=I.kept (t':=s.toks) keep;have G:a' X aa H (s⁻¹+1):=I.fpOk (Nat.le_succ _) (I.hok.fresh (Nat.le_succ _));generalize hD:s⁻¹+1=D at g G ⊢;have n9:D<d.objs.size:=Ao g;refine Aa (AI (wpAny_call_entry_kw slot_list_sort ⟨_,g,rfl⟩ entry_list_sort ?body (ksk_l1 _ _)))
 case body=>
  show wpAny (model X.prog X.w) X.A.in1.in1 (Builtin.«list.sort» ⟨[.ref D],[(Str.ofString "key",.ref f)]⟩) _ _ _;rw[ksk_t1];unfold ksk_tree;refine Aa (listItems_at g rfl ?_);refine Aa (listUpdate_at g rfl ?_ (by rw[Ai];exact F) (AK _));obtain⟨e1,cT⟩:∃e1,(d.update D (AA fun _=>(#[]:Array Value))).get? D=some (seqObj "list" #[] e1):=⟨_,get?_update_seq g fun _=>#[]⟩;refine Aa (seqEpoch_at cT rfl ?_);refine Aa (wpAny_newTuple ?_ (by show vs.length<=_;exact F));refine Aa (wpAny_newList ?_ (AK _));refine AI ?_;have I2:Inv X aa σ H {s with heap:=d.update D (AA fun _=>(#[]:Array Value))}:=
   Inv.turneds (s:={s with heap:=d}) (t':=s.toks) (ch:=[D]) I1 (og G) fun b o hb q=>by rw[Heap.get?_update_ne _ _ _ _ (fun z=>hb (by simp[z]))];exact q
  have I3:Inv X aa σ H {s with heap:=((d.update D (AA fun _=>(#[]:Array Value))).push (seqObj "tuple" vs.toArray 0))}:=I2.kept (t':=s.toks) fun b u q=>Ad _ q;have O:a' X aa H ((d.update D (AA fun _=>(#[]:Array Value))).push (seqObj "tuple" vs.toArray 0)).objs.size:=I3.fpOk (Ah _) (I3.hok.fresh (Ah _));have kO:((d.update D (AA fun _=>(#[]:Array Value))).push (seqObj "tuple" vs.toArray 0)).objs.size≠D:=by
   rw[size_push',A4];omega
  have I4:Inv X aa σ H {s with heap:=(((d.update D (AA fun _=>(#[]:Array Value))).push (seqObj "tuple" vs.toArray 0)).push (seqObj "list" #[] 0))}:=I3.kept (t':=s.toks) fun b u q=>Ad _ q;have oD:(((d.update D (AA fun _=>(#[]:Array Value))).push (seqObj "tuple" vs.toArray 0)).push (seqObj "list" #[] 0)).get? ((d.update D (AA fun _=>(#[]:Array Value))).push (seqObj "tuple" vs.toArray 0)).objs.size=some (seqObj "list" #[] 0):=Ar _ rfl;have bC:(((d.update D (AA fun _=>(#[]:Array Value))).push (seqObj "tuple" vs.toArray 0)).push (seqObj "list" #[] 0)).get? D=some (seqObj "list" #[] e1):=Ad _ (Ad _ cT);show wpAny (model X.prog X.w) X.A.in1.in1 (ksk_rest D (.ref f) false vs.toArray e1 (.ref ((d.update D (AA fun _=>(#[]:Array Value))).push (seqObj "tuple" vs.toArray 0)).objs.size)) _ _ {s with heap:=((d.update D (AA fun _=>(#[]:Array Value))).push (seqObj "tuple" vs.toArray 0)).push (seqObj "list" #[] 0)};generalize ((d.update D (AA fun _=>(#[]:Array Value))).push (seqObj "tuple" vs.toArray 0)).objs.size=kS at *;generalize ((d.update D (AA fun _=>(#[]:Array Value))).push (seqObj "tuple" vs.toArray 0)).push (seqObj "list" #[] 0)=oA at *;unfold ksk_rest;refine Aa (wpAny_rule ?_)
  first
   |rw[List.forIn_toArray]
   |(rw[<-Array.forIn_toList];simp only[List.toList_toArray])
  refine Aa (ksk_fold (fun i s'=>∃x e,Inv X aa σ H s'/\s'.heap.get? kS=some (seqObj "list" x e)/\s'.heap.get? D=some (seqObj "list" #[] e1)/\Vals ((ns.take i).map V.int) x.toList) vs 0 _
   ⟨#[],0,I4,oD,bC,.nil⟩ ?step ?done)
  case step=>
   rintro j v s' Y ⟨x,e,Ik,M,na,y⟩;simp only[Nat.zero_add] at y ⊢;have cz:j<as.length:=by rw[<-lL];exact(List.getElem?_eq_some_iff.mp Y).1
   have N:as[j]?=some as[j]:=Af cz;have en:ns[j]?=some (ns[j]'ω):=Af ω;have ev:v=.ref as[j]:=by
    rw[<-hvs,Ak,N] at Y;exact(Al Y).symm
   subst ev;refine Aa (wpAny_attempt (wpAny_call (Bc (run s' Ik j _ _ N en) fun r C hq=>?_)));obtain⟨u,rfl,v,H',os,J,un,hok,ru,rfl,rfl⟩:=hq;obtain⟨t,rfl⟩:=ru;have I5:Inv X aa σ H' C:=Ik.call' os un hok J (fun b z=>nomatch z);have mL:=un.keep D _ na G.1 (oh Ik G) (by simp);have kL:=un.keep kS _ M O.1 (oh Ik O) (by simp)
   try dsimp only
   have hkz:x.size=j:=by
    have:=y.length;rw[Ab,AM] at this;have h2:x.toList.length=x.size:=AQ;omega
   obtain⟨W,cQ⟩:∃W,(C.heap.update kS (AA (·.push (.int (ns[j]'ω) t)))).get? kS=some (seqObj "list" (x.push (.int (ns[j]'ω) t)) W):=⟨_,get?_update_seq kL (·.push (.int (ns[j]'ω) t))⟩;have s1:=AS C.heap kS (AA (·.push (.int (ns[j]'ω) t)));have I6:Inv X aa σ H' {C with heap:=C.heap.update kS (AA (·.push (.int (ns[j]'ω) t)))}:=
    I5.turneds (t':=C.toks) (ch:=[kS]) (og O) fun b o hb q=>(s1.2 b (fun z=>hb (by simp[z]))).trans q
   refine Aa (listUpdate_at kL rfl ?_ ω (AF (Nat.le_of_eq (Array.size_push ..)) ω));refine Ac ⟨rfl,x.push (.int (ns[j]'ω) t),W,I6,cQ,(s1.2 D kO.symm).trans mL,?_⟩;rw[List.take_add_one,en,Option.toList_some,Av,Array.toList_push];exact y.append (.cons ⟨t,rfl⟩ .nil)
  case done=>
   rintro s' ⟨x,e,Ik,M,na,y⟩;simp only[Nat.zero_add] at y
   try dsimp only
   refine Aa (listItems_at M rfl ?_);unfold ksk_end
   try dsimp only
   simp only[Aj,if_false];rw[Ax ω] at y;have pI:=y.length;rw[Ab] at pI;generalize hku:x.toList=us at y pI;obtain rfl:x=us.toArray:=by rw[<-hku,Array.toArray_toList]
   have hi:IntsAre us ns:=intsAre_of y;have rD:vs.Nodup:=by
    rw[<-hvs];exact List.Pairwise.map Value.ref (fun a b(z:a≠b) e=>z (by cases e;rfl)) nd
   refine aF.Hn (us:=us) (vs:=vs) (ns:=ns) (good:=fun _=>True) (aF.x6 hi) ω ω rD trivial fun af ho P hf=>?_;refine aF.yb (ls:=aF.eP ns) (vs:=vs) M na kO (by rw[Ai];omega) ho P F hf fun h' S c kk gm ul iV nh=>⟨_,rfl,?_⟩;refine Ac ⟨_,rfl,?_⟩;obtain⟨ps,bV,c0,hs⟩:=iV;subst hvs;have I7:Inv X aa σ H {s' with heap:=h'}:=Ik.turneds (t':=s'.toks) (ch:=[kS,D]) (fun b hb=>by
     simp only[List.mem_cons,List.not_mem_nil,or_false] at hb;rcases hb with rfl|rfl
     ·exact O
     ·exact G) fun b o hb q=>kk b o (fun z=>hb (by simp[z])) (fun z=>hb (by simp[z])) q
   have all:∀p∈ps,p.2=Value.ref (addrOf p.2):=fun p T=>by
    obtain⟨a,_,N⟩:=List.mem_map.mp (List.of_mem_zip (bV.mem_iff.mp T:(p.1,p.2)∈_)).2;rw[<-N];rfl
   have pm:(ps.map fun p=>(p.1,addrOf p.2)).Perm ((aF.eP ns).zip as):=by
    have h1:=bV.map (fun p:List Int×Value=>(p.1,addrOf p.2));have e:((aF.eP ns).zip (as.map Value.ref)).map (fun p:List Int×Value=>(p.1,addrOf p.2))=(aF.eP ns).zip as:=by
     rw[List.zip_map_right,Am];exact(AO fun p _=>rfl).trans (List.map_id' _)
    rw[e] at h1;exact h1
   have ex:S.toList=((ps.map fun p=>(p.1,addrOf p.2)).map fun q=>Value.ref q.2):=by
    rw[c0,Am];exact AO fun p T=>all p T
   have vv:Vals ((ps.map fun p=>(p.1,addrOf p.2)).map fun q=>V.ref q.2) S.toList:=by
    rw[ex];exact lJ (fun q:List Int×Addr=>q.2) _
   obtain⟨f0,f1,f2,f3,f4,f5⟩:=G;have mU:X.s₀⁻¹<=D:=by rw[<-hD];exact AF I.sz (Nat.le_succ _)
   have I8:Inv X aa σ (upd H D (.lst ((ps.map fun p=>(p.1,addrOf p.2)).map fun q=>V.ref q.2))) {s' with heap:=h'}:=by
    refine I7.adopt f0 mU f1 f4 f5 ⟨?_,S.toList,c,vv,?_⟩
    ·rw[Ab,pm.length_eq,List.length_zip];omega
    ·simpa using gm
   refine h D _ _ I8 f0 pm ?_;rw[AW];exact hs
end
def Hq(K:Ae)(P:Addr)(pos:Pos)(d:Str)(iy:Nat)(te:TE)(ta:TA):TE:=fun σ H Q=>ta σ H fun vs H1=>∃(l:Addr)(as:List Addr)(ns:List Int)(vy:V),vs=[.ref l]/\SqL K H1 l (as.map V.ref)/\as.Nodup/\ns.length=as.length/\as.length<64/\σ[iy]?=some (some vy)/\Tab H1 P pos d/\
 (∀H2,zH H1 H2->∀(j:Nat) a n,as[j]?=some a->ns[j]?=some n->te [some (.ref a),some vy] H2 fun v H'=>v=.int n/\H'=H2)/\
 ∀D H2(c:List (List Int×Addr)),zH H1 H2->(∀b ps,b≠P->H1 b=some (.tbl ps)->H2 b=some (.tbl ps))->Tab H2 P pos d->H2 D=none->c.Perm ((aF.eP ns).zip as)->c.Pairwise (fun a b=>HT.lexLt b.1 a.1=false)->Q (.ref D) (upd H2 D (.lst (c.map fun q=>V.ref q.2)))
section
variable{X:Cx}{a:Expr}{ta:TA}{p p2 pos gN ge:Pos}{P c cc:Addr}{args:Arguments}{body:Expr}{sc:Scope}{x y:Str}{iy k:Nat}{te:TE}
def Hr(hr:Room (k+2) X.A)(hg:Gl X "sorted")(hm:X.mg "sorted"=none)(hv:A5 "sorted"=some (.builtin "sorted"))(hC:PySem.W.CodeHd X.base c P)(dn:X.env.code=.ref c)(dH:BM X.mg X.base)(G:closureFor sc X.env=pure [(y,cc)])(aG:X.env.cells.lookup y=some cc)(hk:X.env.kindOf y=some .cell)(hN:X.N[iy]?=some y)(S:Bz x y sc)(hb:∀r cl g c' i u,bindArgs (PySem.W.kla_fn "<lambda>" r args body sc cl g (.ref c') i) ⟨[u],[]⟩=pure [(x,u)])(aL:∀s H f r c',PE (pQ X X.A.in1.in1 s H f r sc x y cc c') body te)(ha:PA X [a] ta)(he:starEach [a] X.env=[(false,eval a X.env)]:=by rfl)(ja:defaultsOf args X.env=([],[]):=by rfl):PE X (.Call (.Name "sorted" p) [a] [⟨some "key",.Lambda args body sc ge,gN⟩] pos) (Hq X.K P ge (X.env.qual++"<lambda>") iy te ta):=by
 intro aa s σ H Q I h;refine wpAny_Call_Name_kw (i_ I hg hm hv ?_);refine callWith_kw ?_ (by rw[he];rfl) (by rw[he];rfl) rfl rfl;refine aJ (ha pos aa s σ H _ I h) fun us J ⟨vs,H1,I1,M,O⟩=>?_;obtain⟨l,as,ns,vy,rfl,hl,nd,C,E,lX,ht,kI,q⟩:=O;obtain⟨u,rfl,ru⟩:=vals1 M;cases ru;refine kws_cons (aJ (He (P:=P) (args:=args) (body:=body) (pos:=ge) hC dn dH G ja aa J σ H1 (fun v H2=>∃f,v=.ref f/\zH H1 H2/\(∀b ps,b≠P->H1 b=some (.tbl ps)->H2 b=some (.tbl ps))/\Tab H2 P ge (X.env.qual++"<lambda>")/\zgs H2 f (X.env.qual++"<lambda>") args body sc y cc) I1 ⟨ht,fun f H2 T U Y a4=>⟨f,rfl,T,U,Y,a4⟩⟩) fun u2 s2 nq=>?_);obtain⟨v2,H2,I2,r2,f,rfl,d,j9,tb,L⟩:=nq;cases r2;refine kws_nil ?_;show wpAny (model X.prog X.w) X.A (call (.builtin "sorted") [.ref l] [(Str.ofString "key",.ref f)]) _ _ s2;have F:SqL X.K H2 l (as.map V.ref):=by
  rcases hl with (z|⟨o,z⟩)|z
  ·exact .inl (.inl (d _ _ (fun _ e=>nomatch e) z))
  ·exact .inl (.inr ⟨o,d _ _ (fun _ e=>nomatch e) z⟩)
  ·exact .inr z
 refine Ho hr.units nd I2 F C E (fun s' I' j a n ea en=>?_) fun D qs s' I' hD hp hs=>⟨.ref D,_,I',rfl,q D H2 qs d j9 tb hD hp hs⟩;exact Hc (va:=.ref a) (vy:=vy) (iy:=iy) I' I'.env0.in1.in1 rfl (Room.in1 (Room.in1 hr)).depth L S aG hN lX (.inl hk) (fun g c' i=>hb _ _ g c' i _) rfl (fun c'=>aL s' H2 f _ c') (kI H2 d j a n ea en)
end
end L2
end
section
namespace DCp
open PySem
def wh:mroOf (.type "dict")=pure [.type "dict",.type "object"]:=by rw[mroOf_type];kernel_rfl
def Hs:typeLookup (.type "dict") "__new__"=pure (some (.builtin "dict.__new__")):=by rw[typeLookup_type,builtinLookup_eq_fast];kernel_rfl
def zj:TypeCalled "dict" "dict.__new__" "dict.__init__":=
 ⟨δ,δ,⟨_,_,wh⟩,madeBy_type wh Hs δ,δ,by rw[isSubtype_type];kernel_rfl,PySem.F.slot_dict_init⟩
def wj(a:Value):checkTypeCall "dict" ⟨[a],[]⟩=pure ():=by kernel_rfl
def Ht(a:Value):checkBuiltinCall "dict.__new__" ⟨[.type "dict",a],[]⟩=pure ():=by kernel_rfl
def Hu:entryFor table "dict.__new__"=some Builtin.«dict.__new__»:=entryFor_of_tree (by kernel_rfl)
def BE:plainId "dict.__new__"=true:=δ
def pR:isSubtype (.type "dict") (.type "dict")=pure true:=by rw[isSubtype_type];kernel_rfl
section
variable{prog:Program}{w:World}{A:Around}{E:Ω}{s:Shared}
def wl(a:Value){Q₁:Ω}(h:Q₁ (.ref s⁻¹) {s with heap:=s.heap.push {cls:=.type "dict",data:=.dict #[]}}):codeAny (model prog w) A (.call (.builtin "dict.__new__") ⟨[.type "dict",a],[]⟩) (wants Q₁ E) s:=by
 refine codeAny_of_tree (show wpAny _ A.in1 (do checkBuiltinCall "dict.__new__" ⟨[.type "dict",a],[]⟩;again (.builtin "dict.__new__" ⟨[.type "dict",a],[]⟩)) _ _ s from Aa (wpAny_of_eq (Ht a) (Ac ⟨plainId_quiet BE _,Bh Hu ?_⟩)));rw[Around.under_plainId BE _];unfold Builtin.«dict.__new__»;have b:=pR;have c:=wh;obtain⟨hp,g,d,tk,os⟩:=s;dsimp only;refine Aa (wpAny_of_eq (a:=true) rfl ?_);simp only[Bf,Aj,if_false];refine Aa (wpAny_of_eq b ?_);simp only[Bf,Aj,if_false];refine Aa (wpAny_of_eq c ?_);rw[if_neg ξ];refine Aa (Bj ?_);exact Ac h
def jP{id:String}{d:Addr}{o:Obj}{es:Array DictEntry}{ep:Nat}{Q:Array DictEntry->Shared->Prop}(g:s.heap.get? d=some o)(hd:o.data=.dict es ep)(hk:∀e∈es.toList,∃b,e.key=.ref b/\s.TypeIs (.ref b) "tuple")(i:∀e∈es.toList,(es.filter (·.hash==e.hash)).size<=1)(h:Q es s):wpAny (model prog w) A (Builtin.Dict.entriesForEmpty id d) Q E s:=by
 unfold Builtin.Dict.entriesForEmpty;refine Aa (AH g hd ?_);refine Aa ?_;show wpAny _ _ (forIn es _ _) _ _ s;rw[<-Array.forIn_toList];refine wpAny_forIn_list _ (fun rest r s'=>s'=s/\∀e∈rest,e∈es.toList) _ ?_ ?_ _ _ ⟨rfl,fun _ z=>z⟩
 ·rintro e rest r s' ⟨rfl,a⟩
  have he:=a e AB;obtain⟨b,f,hT⟩:=hk e he;have nx:∀e∈rest,e∈es.toList:=fun u c=>a u (Ay _ c);have hs:=i e he;unfold Builtin.Dict.quietEq;rw[f];refine Aa ?_;dsimp only;refine Aa (wpAny_specialOf hT F.slot_tuple_eq.lookup (Ac ?_));rw[if_pos ξ,if_neg ω];exact Ac ⟨rfl,nx⟩
 ·rintro r s' ⟨rfl,_⟩
  exact Ac h
def Hv{id:String}{D d:Addr}{o:Obj}{es:Array DictEntry}{ep:Nat}{Q:Unit->Shared->Prop}(c:s.heap.get? d=some o)(hd:o.data=.dict es ep)(r:(d==AU)=false)(hz:es.size<=sizeLine)(i:D≠d)(hk:∀e∈es.toList,∃b,e.key=.ref b/\s.TypeIs (.ref b) "tuple")(u:∀e∈es.toList,(es.filter (·.hash==e.hash)).size<=1)(f:s.heap.get? D=some {cls:=.type "dict",data:=.dict #[]})(h:∀h' j,h'.get? D=some {cls:=.type "dict",data:=.dict es j}->AR D s.heap h'->Q () {s with heap:=h'}):wpAny (model prog w) A (Builtin.Dict.mergeDict id D d) Q E s:=by
 unfold Builtin.Dict.mergeDict;rw[if_neg (by simpa using i)];unfold Builtin.Dict.showsAll;rw[if_neg (by rw[r];exact Au)];refine Aa (Ac ?_);refine Aa (AH c hd ?_)
 by_cases q:es.size=0
 ·have he:es=#[]:=Array.eq_empty_of_size_eq_zero q
  subst he;have g:(decide ((#[]:Array DictEntry).size<=8)&&(#[]:Array DictEntry).all fun e=>(keyPart e.key).isSome)=true:=by simp
  dsimp only;rw[g];simp only[Bf,Aj,if_false];refine Aa (wpAny_dictEpoch c hd ?_);refine Aa (AH c hd ?_);refine Aa ?_;rw[Std.Legacy.Range.forIn_eq_forIn_range'];refine wpAny_of_eq (a:=PUnit.unit) rfl ?_;exact Ac (h s.heap 0 f (Heap.SameBut.refl ..))
 ·have g:(decide (es.size<=8)&&es.all fun e=>(keyPart e.key).isSome)=false:=by
   have p:0<es.size:=Nat.pos_of_ne_zero q;obtain⟨b,l,_⟩:=hk es[0] (by simp);have:(es.all fun e=>(keyPart e.key).isSome)=false:=by
    rw[Bool.eq_false_iff];intro z;rw[Array.all_eq_true] at z;have:=z 0 p;rw[l] at this;exact absurd this (by simp[keyPart])
   rw[this,Bool.and_false]
  dsimp only;rw[g];simp only[Bool.not_false,if_true];refine Aa (AH f rfl ?_);rw[if_pos (show(#[]:Array DictEntry).isEmpty=true from rfl)];refine Aa (jP c hd hk u ?_);rw[if_pos (by simpa[Array.isEmpty] using q)];refine Aa (wpAny_updateDictKeysTo f rfl ?_ ω);refine Ac (h _ 1 ?_ (AS ..));rw[Heap.get?_update_self _ f (by simp[Obj.mapDictKeys,Obj.isFreed])]
  rfl
def Hw{d:Addr}{o:Obj}{es:Array DictEntry}{ep:Nat}{Q:Ω}(v:s.heap.get? d=some o)(hx:o.ExactDict)(hd:o.data=.dict es ep)(G:(d==AU)=false)(hz:es.size<=sizeLine)(hk:∀e∈es.toList,∃b,e.key=.ref b/\s.TypeIs (.ref b) "tuple")(H:∀e∈es.toList,(es.filter (·.hash==e.hash)).size<=1)(h:∀h' g,h'.get? s⁻¹=some {cls:=.type "dict",data:=.dict es g}->(∀b o,b<s⁻¹->s.heap.get? b=some o->h'.get? b=some o)->Q (.ref s⁻¹) {s with heap:=h'}):wpAny (model prog w) A (call (.type "dict") [.ref d]) Q E s:=by
 obtain⟨c,tl,I⟩:=zj.mro;have J:=zj.made;have L:=zj.sub;refine wpAny_call (codeAny_of_tree ?_);show wpAny _ _ (callAny (.type "dict") _) _ _ _;refine Ac ⟨Code.quiet_builtin _ δ,Bh F.entry_type_call ?_⟩;rw[Around.under_plain (weight_type_call_type "dict" [.ref d] []) rfl];have h1:=zj.notType;have h2:=zj.canCreate;have M:=wj (.ref d)
 repeat(any_goals(first|assumption|wp_step))
 refine Bc (wl (.ref d) (E:=E) (Q₁:=fun obj l=>obj=.ref s⁻¹/\l={s with heap:=s.heap.push {cls:=.type "dict",data:=.dict #[]}}) ⟨rfl,rfl⟩) fun r l hr=>?_;cases r with
 |error e=>exact hr
 |ok fl=>
  cases fl with
  |ret obj=>
   obtain⟨rfl,rfl⟩:=hr;have q:(s.heap.push {cls:=.type "dict",data:=.dict #[]}).get? s⁻¹=some {cls:=.type "dict",data:=.dict #[]}:=Ar _ rfl;have u:Shared.TypeIs {s with heap:=s.heap.push {cls:=.type "dict",data:=.dict #[]}} (.ref s⁻¹) "dict":=⟨_,q,rfl⟩;have N:=zj.init.lookup;have O:=zj.init.bind (.ref s⁻¹)
   repeat(any_goals(first|assumption|wp_step))
   refine Bc (codeAny_call_builtin (R:=wants (fun r p=>r=.none/\∃h' g,p={s with heap:=h'}/\
     h'.get? s⁻¹=some {cls:=.type "dict",data:=.dict es g}/\
     (∀b o,b<s⁻¹->s.heap.get? b=some o->h'.get? b=some o)) E) zj.init.plain F.entry_dict_init (zj.init.check _ _ _ _ _ _ _ _ u (F.args_dict_init_2 _ _) ?_)) fun x p j=>?_
   ·have D:d<s⁻¹:=Ao v
    have i:(s.heap.push {cls:=.type "dict",data:=.dict #[]}).get? d=some o:=Ad _ v;have f:Shared.TypeIs {s with heap:=s.heap.push {cls:=.type "dict",data:=.dict #[]}} (.ref d) "dict":=⟨o,i,hx.1⟩;unfold Builtin.«dict.__init__»;refine Aa ?_;unfold Builtin.Dict.selfAndRest;refine Aa (wpAny_notOrdered_dict u ?_);refine Aa (show wpAny _ _ (pure s⁻¹) _ _ _ from Ac ?_);refine Ac ?_;show wpAny _ _ (Builtin.Dict.updateCommon "dict.__init__" "dict" s⁻¹ [Value.ref d] []) _ _ _;unfold Builtin.Dict.updateCommon Builtin.Dict.updateFrom;dsimp only;refine Aa (wpAny_typeOf f ?_);rw[if_neg ξ];unfold Builtin.Dict.merge Builtin.Dict.readDirectly;refine Aa (Aa (Aa (wpAny_isInstance f pR ?_)));simp only[Bf,Aj,if_false];refine Aa (wpAny_specialOf f F.slot_dict_iter.lookup (Ac ?_));rw[if_pos ξ];refine Aa (show wpAny _ _ (pure d) _ _ _ from Ac ?_);refine Hv (s:={s with heap:=s.heap.push {cls:=.type "dict",data:=.dict #[]}}) i hd G hz (Nat.ne_of_gt D) (fun e he=>let ⟨b,e1,o,e2,e3⟩:=hk e he;⟨b,e1,o,Ad _ e2,e3⟩) H q fun h' g y z=>?_;unfold Builtin.Dict.addKeywords;refine Aa (wpAny_of_eq (a:=()) rfl ?_);refine Ac ⟨rfl,h',g,rfl,y,fun b o hb e=>?_⟩;rw[z.2 b (Ap hb)];exact Ad _ e
   ·cases x with
    |error e=>exact j
    |ok fl₂=>
     cases fl₂ with
     |ret r=>
      obtain⟨rfl,h',g,rfl,C,hk'⟩:=j
      repeat(any_goals(first|assumption|wp_step))
      exact h _ _ C hk'
     |_=>exact j.elim
  |_=>exact hr.elim
end
end DCp
end
section
namespace L2
open PySem PySem.Spec PyProof.Rows
def BF{a:Type}(f:a->Int):∀(l:List a),(l.map f).Nodup->∀c,(l.filter fun x=>f x==c).length<=1
 |[],_,c=>by simp
 |x::l,h,c=>by
  rw[AE,List.nodup_cons] at h;have b:=BF f l h.2 c
  by_cases q:f x=c
  ·rw[List.filter_cons_of_pos (by simpa using q)]
   have:l.filter (fun x=>f x==c)=[]:=List.filter_eq_nil_iff.mpr fun y hy z=>h.1 (by rw[q,<-(by simpa using z:f y=c)];exact List.mem_map_of_mem hy);rw[this];simp
  ·rw[List.filter_cons_of_neg (by simpa using q)]
   exact b
section
variable{X:Cx}
def wn:bU X (.type "dict") (fun xs H Q=>∃(a:Addr)(kvs:List (List Key×V))(pss:Ξ),xs=[.ref a]/\Rd H a (.dT kvs)/\kvs.map (·.1)=pss.map (·.map Sum.inl)/\(pss.map (Aq (intKind X.prog X.w))).Nodup/\
  ∀D,H D=none->Q (.ref D) (upd H D (.dT kvs))):=by
 intro aa s σ H xs us Q I r h;obtain⟨a,kvs,pss,rfl,hq,hp,A,q⟩:=h;obtain⟨u,rfl,C⟩:=vals1 r;cases C;obtain⟨z,y,ys,c,o,es,ep,h1,h2,E,g,F⟩:=(show zC X.prog X.w H s.heap a (.dT kvs) from hq.ok I.hok);have L:kvs.length=ys.length:=A7 c;have M:es.size=ys.length:=by
  have:=congrArg List.length g;rw[Ab] at this
  simpa using this
 have J:ys.map (·.1)=pss.map (·.map Sum.inl):=by
  rw[<-hp];have:∀{l:List (List Key×V)}{m:List (List Key×Addr×Value)},KT H l m->m.map (·.1)=l.map (·.1):=by
   intro l m q
   induction q with
   |nil=>rfl
   |cons hq t ih=>rw[AE,AE,ih,hq.1]
  exact this c
 have f:es.toList.map (·.hash)=pss.map (Aq (intKind X.prog X.w)):=by
  rw[g,Am];have e1:ys.map ((·.hash) ∘ entryOfKey (tupleKind (zo X.prog X.w)))=(ys.map (·.1)).map (Aq (zo X.prog X.w)):=by rw[Am];rfl
  rw[e1,J,Am];exact AO fun ps _=>vV ps
 have tk:∀e∈es.toList,∃b,e.key=.ref b/\s.TypeIs (.ref b) "tuple":=fun e he=>by
  rw[g] at he;obtain⟨d,hw,rfl⟩:=List.mem_map.mp he;have:∀{l:List (List Key×V)}{m:List (List Key×Addr×Value)},KT H l m->∀d∈m,∃ks:List Key,H d.2.1=some (.tup (ks.map kV)):=by
   intro l m q
   induction q with
   |nil=>intro d hw;cases hw
   |cons hq t ih=>
    intro d hw;rcases List.mem_cons.mp hw with rfl|hw
    ·exact⟨_,hq.2.1⟩
    ·exact ih d hw
  obtain⟨ks,G⟩:=this c d hw;exact⟨d.2.1,rfl,(j_ (P:=X.prog) (w:=X.w) I.hok G).typeIs⟩
 refine DCp.Hw h1 h2 E y ω tk (fun e he=>?_) fun h' p v x=>?_
 ·have:=BF (fun e:DictEntry=>e.hash) es.toList (by rw[f];exact A) e.hash
  rw[<-AQ,Array.toList_filter];exact this
 ·have j:=I.hok.fresh (Ah s⁻¹)
  have hy:(s⁻¹==AU)=false:=by
   have:=I.big
   simpa using Nat.ne_of_gt this
  have i:KT (upd H s⁻¹ (.dT kvs)) kvs ys:=KT.keeps c fun b zs e=>by rw[zh (zl e j)];exact e
  exact⟨.ref s⁻¹,_,I.laid (t':=s.toks) (o:=.dT kvs) (fun b u e=>x b u (Ao e) e) (Ah _) (show zC X.prog X.w _ h' _ (.dT kvs) from⟨z,hy,ys,i,_,es,p,v,⟨rfl,rfl,rfl⟩,rfl,g,F⟩),rfl,q _ j⟩
end
end L2
end
section
namespace DEq
open PySem
section
variable{prog:Program}{w:World}{K:Type}[DecidableEq K]{knd:HeapKind prog w K}{A:Around}{E:Ω}{s:Shared}
def Hx{id:String}{a b:Addr}{xs ys:List (K×Addr×Value)}{Q:Bool->Shared->Prop}(hu:knd.room A)(T:(a==AU)=false)(hb:(b==AU)=false)(hx:s.heap.DictOfH knd a xs)(hy:s.heap.DictOfH knd b ys)(U:xs.length=ys.length)(W:∀(i:Nat) k p v,xs[i]?=some (k,p,v)->∃q n t t',v=.int n t/\ys[i]?=some (k,q,.int n t'))(h:Q true s):wpAny (model prog w) A (Builtin.Dict.samePairs id a b) Q E s:=by
 obtain⟨Y,c,pa,f,oN,g,F,L,pB⟩:=hx;obtain⟨ob,M,pb,l,cZ,o,u,N,G⟩:=hy;have H:=size_of_entries (knd:=knd) F;have P:=size_of_entries (knd:=knd) u;unfold Builtin.Dict.samePairs Builtin.Dict.showsAll;rw[if_neg (by rw[T];exact Au),if_neg (by rw[hb];exact Au)];refine Aa (Ac (Aa (Ac ?_)));refine Aa (AH f g ?_);dsimp only;refine Aa (AH l o ?_);rw[if_neg (by rw[H,P,U];simp)];refine Aa (wpAny_dictEpoch f g ?_);refine Aa ?_;rw[Std.Legacy.Range.forIn_eq_forIn_range'];simp only[Std.Legacy.Range.size,Nat.sub_zero,Nat.add_sub_cancel,Nat.div_one];refine wpAny_forIn_list _ (fun rest r s'=>s'=s/\r.1=none/\∃i,rest=List.range' i (c.size-i)/\i<=c.size) _ ?_ ?_ _ _ ⟨rfl,rfl,0,by simp,AK _⟩
 ·rintro x rest r s' ⟨rfl,z,i,hr,hi⟩
  have d:i<c.size:=by
   rcases Nat.lt_or_ge i c.size with h|h
   ·exact h
   ·rw[Nat.sub_eq_zero_of_le h] at hr;simp at hr
  obtain⟨rfl,O⟩:x=i/\rest=List.range' (i+1) (c.size-(i+1)):=by
   have e:c.size-i=(c.size-(i+1))+1:=ω
   rw[e,List.range'_succ] at hr;injection hr with h1 h2
   exact⟨h1,h2⟩
  obtain⟨⟨k,p,v⟩,hkv⟩:∃y,xs[x]?=some y:=⟨xs[x]'(by rw[<-H];exact d),Af _⟩;obtain⟨q,n,t,t',rfl,C⟩:=W x k p v hkv;have hex:c[x]?=some ⟨knd.hash k,.ref p,.int n t⟩:=by rw[entry_at F x,hkv];rfl
  have D:knd.is s'.heap k p:=L _ (An hkv);refine Aa (AH f g ?_);rw[hex];dsimp only;refine Aa (AI (Aa (wpAny_dictFind_heap hu D l o u N G (fun I=>absurd C (I x _)) fun j X J=>?_)));obtain rfl:=idxH_unique G J C;dsimp only;refine Aa (AH l o ?_);have S:M[j]?=some ⟨knd.hash k,.ref q,.int n t'⟩:=by rw[entry_at u j,C];rfl
  rw[S];dsimp only;refine AI (wpAny_eqBool_int ?_);rw[if_neg (by simp)];refine Aa (wpAny_dictEpoch f g ?_);rw[if_neg (by simp)];exact Ac ⟨rfl,rfl,j+1,O,d⟩
 ·rintro⟨r1,r2⟩ s' ⟨rfl,z,_⟩
  simp only at z;subst z;exact Ac h
def Hy{a b:Addr}{xs ys:List (K×Addr×Value)}{Q:Bool->Shared->Prop}(hu:∀A':Around,A'.units<=A.units+8->knd.room A')(d:A.units<cLine)(f:(a==AU)=false)(hb:(b==AU)=false)(hx:s.heap.DictOfH knd a xs)(hy:s.heap.DictOfH knd b ys)(g:xs.length=ys.length)(j:∀(i:Nat) k p v,xs[i]?=some (k,p,v)->∃q n t t',v=.int n t/\ys[i]?=some (k,q,.int n t'))(h:Q true s):wpAny (model prog w) A (eqBool (.ref a) (.ref b)) Q E s:=by
 unfold eqBool
 try with_reducible refine AI ?_
 show wpAny _ _ (if(Value.ref a==Value.ref b)=true then _ else _) Q E s
 by_cases c:(Value.ref a==Value.ref b)=true
 ·rw[if_pos c]
  exact Aa (wpAny_rule (Ac h))
 ·rw[if_neg c]
  refine Aa (wpAny_richCompare_same_room (op:=.Eq) hx.typeIs hy.typeIs F.slot_dict_eq
   (A0 F.slot_dict_eq hx.typeIs F.entry_dict_eq ?_ (F.args_dict_eq_2 _ _)) d)
  unfold Builtin.«dict.__eq__»
  wp_delta
  refine Aa ?_;unfold Builtin.Dict.dictSlotArgs;refine Aa (wpAny_notOrdered_dict hx.typeIs ?_);refine Aa (show wpAny _ _ (pure (Value.ref a,[Value.ref b])) _ _ _ from Ac ?_);refine Ac ?_;dsimp only;refine Aa (wpAny_isInstance hy.typeIs DCp.pR ?_);simp only[Bf,Aj,if_false];refine Aa (show wpAny _ _ (pure a) _ _ _ from Ac ?_);refine Aa (show wpAny _ _ (pure b) _ _ _ from Ac ?_);refine Aa (Hx (hu _ (by show A.units+1<=_;omega)) f hb hx hy g j ?_);exact Ac ⟨_,rfl,(fun e=>nomatch e),wpAny_truthy_bool h⟩
end
end DEq
end
section
namespace L2
open PySem PySem.Spec PyProof.Rows
def pT{P:Program}{w:World}{H:Hp}{h:Heap}{a:Addr}{kvs:List (List Key×V)}{pss:Ξ}(ok:HOk P w H h)(hq:Rd H a (.dT kvs))(hp:kvs.map (·.1)=pss.map (·.map Sum.inl)):(a==AU)=false/\∃xs:List (List Int×Addr×Value),(∀u d,h.DictOfH (tupleKind (intKind u d)) a xs)/\xs.length=kvs.length/\∀(i:Nat) x,xs[i]?=some x->pss[i]?=some x.1/\∃kv,kvs[i]?=some kv/\RelV kv.2 x.2.2:=by
 obtain⟨z,y,ys,g,o,es,ep,h1,h2,A,C,v⟩:=(show zC P w H h a (.dT kvs) from hq.ok ok);have key:∀{l:List (List Key×V)}{m:List (List Key×Addr×Value)}{c:Ξ},KT H l m->l.map (·.1)=c.map (·.map Sum.inl)->
   ∃xs:List (List Int×Addr×Value),m=xs.map (fun x=>(x.1.map Sum.inl,x.2))/\xs.map (·.1)=c/\(∀x∈xs,Tp H x.2.1 x.1)/\xs.length=l.length/\∀(i:Nat) x,xs[i]?=some x->c[i]?=some x.1/\∃kv,l[i]?=some kv/\RelV kv.2 x.2.2:=by
  intro l m c q
  induction q generalizing c with
  |nil=>intro e;cases c with
   |nil=>exact⟨[],rfl,rfl,(fun x hx=>by cases hx),rfl,(fun i x e=>by simp at e)⟩
   |cons p ps=>simp at e
  |@cons p q' ps vD hq t ih=>intro e;cases c with
   |nil=>simp at e
   |cons r rs=>
    simp only[AE,List.cons.injEq] at e;obtain⟨xs,e1,e2,e3,j,s⟩:=ih e.2;have hk:=hq.2.1;rw[e.1,Am] at hk;refine⟨(r,q'.2)::xs,?_,by rw[AE,e2],fun x hx=>?_,by simp[j],fun i x ex=>?_⟩
    ·rw[AE,<-e1,<-e.1,hq.1]
    ·rcases List.mem_cons.mp hx with rfl|hx
     ·exact hk
     ·exact e3 x hx
    ·cases i with
     |zero=>
      simp at ex;subst ex;exact⟨rfl,p,rfl,hq.2.2⟩
     |succ i=>simpa using s i x (by simpa using ex)
 obtain⟨xs,e1,e2,e3,j,s⟩:=key g hp;refine⟨y,xs,fun u d=>⟨o,es,ep,h1,h2,A,?_,fun x hx=>?_,?_⟩,j,s⟩
 ·rw[C,e1,Am]
  refine AO fun x _=>?_;show DictEntry.mk (Aq (zo P w) (x.1.map Sum.inl)) (.ref x.2.1) x.2.2=DictEntry.mk (Aq (intKind u d) x.1) (.ref x.2.1) x.2.2;rw[vV]
  rfl
 ·obtain⟨_,F,r,p⟩:=(show zC P w H h x.2.1 (.tup (x.1.map V.int)) from ok x.2.1 _ (e3 x hx))
  exact vf p (intsAre_of r)
 ·have D:xs.map (fun x=>x.1.map (Sum.inl:Int->Key))=(xs.map (·.1)).map (·.map Sum.inl):=by rw[Am];rfl
  rw[e1,Am] at v;have E:((xs.map (·.1)).map (·.map (Sum.inl:Int->Key))).Nodup:=by rw[<-D];exact v
  exact List.Pairwise.of_map _ (fun a b f e=>f (by rw[e])) E
def Hz{P:Program}{w:World}{A:Around}{H:Hp}{s:Shared}{a b:Addr}{kvs:List (List Key×V)}{pss:Ξ}{ns:List Int}(hu:A.units+64<cLine)(ok:HOk P w H s.heap)(C:Rd H a (.dT kvs))(hb:Rd H b (.dT kvs))(hp:kvs.map (·.1)=pss.map (·.map Sum.inl))(D:kvs.map (·.2)=ns.map V.int):SeqAt.EqAt A s (.ref a) (.ref b) true:=by
 intro prog w E Q h;obtain⟨f,xs,g,F,j⟩:=pT ok C hp;obtain⟨l,ys,o,bl,q⟩:=pT ok hb hp;refine DEq.Hy (knd:=tupleKind (intKind prog w)) (fun A' z=>show A'.units<cLine from ω) ω f l (g prog w) (o prog w) ω (fun i k p v e=>?_) h;obtain⟨g1,kv,g2,g3⟩:=j i _ e;have hi:i<ys.length:=by
  have:=(List.getElem?_eq_some_iff.mp e).1;omega
 obtain⟨f1,G,f2,d⟩:=q i ys[i] (Af hi);rw[g2] at f2;obtain rfl:=Al f2;rw[g1] at f1;have x:k=ys[i].1:=Al f1;have c:=congrArg (·[i]?) D;simp only[Ak,g2,Option.map_some] at c;cases en:ns[i]? with
 |none=>rw[en] at c;simp at c
 |some n=>
  rw[en] at c;have y:kv.2=V.int n:=by simpa using c
  rw[y] at g3 d;obtain⟨t,r⟩:=(show ∃t,v=Value.int n t from g3);obtain⟨t',u⟩:=(show ∃t,ys[i].2.2=Value.int n t from d);refine⟨ys[i].2.1,n,t,t',r,?_⟩;rw[Af hi,x,<-u]
section
variable{X:Cx}
def pV{aa:Ψ}{σ:St}{H:Hp}{s:Shared}{l:Addr}{ns:List Int}(I:Inv X aa σ H s)(c:SqL X.K H l (ns.map V.int)):∃a,Reads s.heap (.ref l) (.list (ns.map AV)) a:=by
 obtain⟨d,r,p,_⟩:=I.list c;obtain⟨o,b,hc,n,hd⟩:=p.isList;exact⟨_,.list b hc hd ((PySem.W.ke_carried (intsAre_of r)).reads s.heap)⟩
def pX(ns:List Int):SeqAt.shaped (.list (ns.map AV))=true:=by
 simp[SeqAt.shaped,PyData.canLay0,PySem.W.ke_canLayAll0,PyData.depth,PySem.W.ke_depthAll]
def pZ(ns:List Int):(Shape.list .int).has (.list (ns.map AV))=true:=by simp[Shape.has]
def wq(K:Ae):R2:=fun x y H Q=>∃l m ns a,x=.ref l/\y=.ref m/\SqL K H l (List.map V.int ns)/\SqL K H m (List.map V.int a)/\Q (.bl (decide (ns=a))) H
def HD(hu:X.A.units+64<cLine):bw X (Bg .Eq) (wq X.K):=by
 intro aa s σ H x y v u Q I b c h;obtain⟨l,m,ns,a,rfl,rfl,d,hm,q⟩:=h;cases b;cases c;obtain⟨g,e⟩:=pV I d;obtain⟨i,f⟩:=pV I hm;refine eq_dataH_same e f (pX _) (pX _) hu (SeqAt.noMix_of_shape (.list .int) rfl _ _ (pZ _) (pZ _)) ?_;rw[show same (.list (ns.map AV)) (.list (a.map AV))=decide (ns=a) from by simp only[same];exact PySem.W.ke_sameAll ns a];exact⟨.bl _,H,I,rfl,q⟩
end
end L2
end
section
namespace DEq
open PySem
section
variable{prog:Program}{w:World}{K:Type}[DecidableEq K]{knd:HeapKind prog w K}{A:Around}{E:Ω}{s:Shared}
def HE{id:String}{a b:Addr}{xs ys:List (K×Addr×Value)}{Q:Bool->Shared->Prop}(hu:knd.room A)(U:(a==AU)=false)(hb:(b==AU)=false)(hx:s.heap.DictOfH knd a xs)(hy:s.heap.DictOfH knd b ys)(W:xs.length=ys.length)(X:∀(i:Nat) k p v,xs[i]?=some (k,p,v)->∃(j:Nat)(q:Addr)(n:Int)(t t':Tok),v=.int n t/\ys[j]?=some (k,q,.int n t'))(h:Q true s):wpAny (model prog w) A (Builtin.Dict.samePairs id a b) Q E s:=by
 obtain⟨oa,c,pa,f,oN,g,F,L,pB⟩:=hx;obtain⟨ob,M,pb,l,cZ,o,u,N,G⟩:=hy;have H:=size_of_entries (knd:=knd) F;have S:=size_of_entries (knd:=knd) u;unfold Builtin.Dict.samePairs Builtin.Dict.showsAll;rw[if_neg (by rw[U];exact Au),if_neg (by rw[hb];exact Au)];refine Aa (Ac (Aa (Ac ?_)));refine Aa (AH f g ?_);dsimp only;refine Aa (AH l o ?_);rw[if_neg (by rw[H,S,W];simp)];refine Aa (wpAny_dictEpoch f g ?_);refine Aa ?_;rw[Std.Legacy.Range.forIn_eq_forIn_range'];simp only[Std.Legacy.Range.size,Nat.sub_zero,Nat.add_sub_cancel,Nat.div_one];refine wpAny_forIn_list _ (fun rest r s'=>s'=s/\r.1=none/\∃i,rest=List.range' i (c.size-i)/\i<=c.size) _ ?_ ?_ _ _ ⟨rfl,rfl,0,by simp,AK _⟩
 ·rintro x rest r s' ⟨rfl,z,i,hr,hi⟩
  have d:i<c.size:=by
   rcases Nat.lt_or_ge i c.size with h|h
   ·exact h
   ·rw[Nat.sub_eq_zero_of_le h] at hr;simp at hr
  obtain⟨rfl,O⟩:x=i/\rest=List.range' (i+1) (c.size-(i+1)):=by
   have e:c.size-i=(c.size-(i+1))+1:=ω
   rw[e,List.range'_succ] at hr;injection hr with h1 h2
   exact⟨h1,h2⟩
  obtain⟨⟨k,p,v⟩,hkv⟩:∃y,xs[x]?=some y:=⟨xs[x]'(by rw[<-H];exact d),Af _⟩;obtain⟨P,q,n,t,t',rfl,C⟩:=X x k p v hkv;have hex:c[x]?=some ⟨knd.hash k,.ref p,.int n t⟩:=by rw[entry_at F x,hkv];rfl
  have D:knd.is s'.heap k p:=L _ (An hkv);refine Aa (AH f g ?_);rw[hex];dsimp only;refine Aa (AI (Aa (wpAny_dictFind_heap hu D l o u N G (fun I=>absurd C (I P _)) fun j Y J=>?_)));obtain rfl:=idxH_unique G J C;dsimp only;refine Aa (AH l o ?_);have T:M[j]?=some ⟨knd.hash k,.ref q,.int n t'⟩:=by rw[entry_at u j,C];rfl
  rw[T];dsimp only;refine AI (wpAny_eqBool_int ?_);rw[if_neg (by simp)];refine Aa (wpAny_dictEpoch f g ?_);rw[if_neg (by simp)];exact Ac ⟨rfl,rfl,x+1,O,d⟩
 ·rintro⟨r1,r2⟩ s' ⟨rfl,z,_⟩
  simp only at z;subst z;exact Ac h
def HF{id:String}{a b:Addr}{xs ys:List (K×Addr×Value)}{Q:Bool->Shared->Prop}(o:(a==AU)=false)(hb:(b==AU)=false)(hx:s.heap.DictOfH knd a xs)(hy:s.heap.DictOfH knd b ys)(p:xs.length≠ys.length)(h:Q false s):wpAny (model prog w) A (Builtin.Dict.samePairs id a b) Q E s:=by
 obtain⟨q,r,u,c,v,d,e,x,y⟩:=hx;obtain⟨ob,z,C,f,D,g,i,F,G⟩:=hy;have j:=size_of_entries (knd:=knd) e;have l:=size_of_entries (knd:=knd) i;unfold Builtin.Dict.samePairs Builtin.Dict.showsAll;rw[if_neg (by rw[o];exact Au),if_neg (by rw[hb];exact Au)];refine Aa (Ac (Aa (Ac ?_)));refine Aa (AH c d ?_);dsimp only;refine Aa (AH f g ?_);rw[if_pos (by rw[j,l];simpa using p)];exact Aa (wpAny_rule (Ac h))
def HG{a b:Addr}{r:Bool}{Q:Ω}(c:A.units<cLine)(hx:s.TypeIs (.ref a) "dict")(hy:s.TypeIs (.ref b) "dict")(hs:∀(id:String)(R:Bool->Shared->Prop)(d:Ω)(A':Around),A'.units<=A.units+8->R r s->wpAny (model prog w) A' (Builtin.Dict.samePairs id a b) R d s)(h:Q (.bool (!r)) s):wpAny (model prog w) A (Bg .NotEq (.ref a) (.ref b)) Q E s:=by
 show wpAny _ _ (richCompare .NotEq (.ref a) (.ref b)) _ _ _;refine wpAny_richCompare_same_room (op:=.NotEq) hx hy F.slot_dict_ne (A0 F.slot_dict_ne hx F.entry_dict_ne ?_ (F.args_dict_ne_2 _ _)) c;unfold Builtin.«dict.__ne__»
 wp_delta
 refine Aa ?_;unfold Builtin.Dict.dictSlotArgs;refine Aa (wpAny_notOrdered_dict hx ?_);refine Aa (show wpAny _ _ (pure (Value.ref a,[Value.ref b])) _ _ _ from Ac ?_);refine Ac ?_;dsimp only;refine Aa (wpAny_isInstance hy DCp.pR ?_);simp only[Bf,Aj,if_false];refine Aa (show wpAny _ _ (pure a) _ _ _ from Ac ?_);refine Aa (show wpAny _ _ (pure b) _ _ _ from Ac ?_);refine Aa (hs _ _ _ _ (by show A.units+1<=_;omega) ?_);refine Ac ⟨_,rfl,(fun e=>nomatch e),?_⟩;cases r<;>exact h
end
end DEq
namespace L2
open PySem PySem.Spec PyProof.Rows
def dB(H:Hp)(a b:Addr)(r:Bool):Prop:=∃(kvs c:List (List Key×V))(pss d:Ξ)(ns:List Int),Rd H a (.dT kvs)/\Rd H b (.dT c)/\kvs.map (·.1)=pss.map (·.map Sum.inl)/\c.map (·.1)=d.map (·.map Sum.inl)/\kvs.map (·.2)=ns.map V.int/\
 ((r=true/\kvs.length=c.length/\∀kv∈kvs,kv∈c)\/(r=false/\kvs.length≠c.length))
section
variable{X:Cx}
def HH{aa:Ψ}{s:Shared}{σ:St}{H:Hp}{a b:Addr}{r:Bool}(I:Inv X aa σ H s)(hu:X.A.units+64<cLine)(h:dB H a b r):s.TypeIs (.ref a) "dict"/\s.TypeIs (.ref b) "dict"/\
  ∀(id:String)(R:Bool->Shared->Prop)(y:Ω)(A':Around),A'.units<=X.A.units+8->R r s->wpAny (model X.prog X.w) A' (Builtin.Dict.samePairs id a b) R y s:=by
 obtain⟨kvs,P,pss,Q,ns,z,hb,hp,l,C,hc⟩:=h;obtain⟨o,xs,d,S,D⟩:=pT I.hok z hp;obtain⟨q,ys,f,bl,E⟩:=pT I.hok hb l;refine⟨(d X.prog X.w).typeIs,(f X.prog X.w).typeIs,fun id R y A' O hR=>?_⟩;rcases hc with ⟨rfl,F,hm⟩|⟨rfl,F⟩
 ·refine DEq.HE (knd:=tupleKind (intKind X.prog X.w)) (show A'.units<cLine from ω) o q (d _ _) (f _ _) ω (fun i k p v e=>?_) hR
  obtain⟨g1,kv,g2,g3⟩:=D i _ e;obtain⟨j,g⟩:=List.getElem?_of_mem (hm kv (An g2));have L:j<ys.length:=by have:=(List.getElem?_eq_some_iff.mp g).1;omega
  have x:ys[j]?=some ys[j]:=Af L;obtain⟨f1,T,f2,u⟩:=E j ys[j] x;rw[g] at f2;obtain rfl:=Al f2;have k1:kv.1=k.map Sum.inl:=by
   have:=congrArg (·[i]?) hp;simp only[Ak,g2,g1,Option.map_some,Option.some.injEq] at this;exact this
  have k2:kv.1=ys[j].1.map Sum.inl:=by
   have:=congrArg (·[j]?) l;simp only[Ak,g,f1,Option.map_some,Option.some.injEq] at this;exact this
  have M:ys[j].1=k:=tK.mp (k2.symm.trans k1);have c:=congrArg (·[i]?) C;simp only[Ak,g2,Option.map_some] at c;cases en:ns[i]? with
  |none=>rw[en] at c;simp at c
  |some n=>
   rw[en] at c;have N:kv.2=V.int n:=by simpa using c
   rw[N] at g3 u;obtain⟨t,G⟩:=(show ∃t,v=Value.int n t from g3);obtain⟨t',J⟩:=(show ∃t,ys[j].2.2=Value.int n t from u);refine⟨j,ys[j].2.1,n,t,t',G,?_⟩;rw[x,<-M,<-J]
 ·exact DEq.HF (knd:=tupleKind (intKind X.prog X.w)) o q (d _ _) (f _ _) ω hR
def HI(hu:X.A.units+64<cLine):bw X (Bg .NotEq) (fun x y H Q=>∃a b r,x=.ref a/\y=.ref b/\dB H a b r/\Q (.bl (!r)) H):=by
 intro aa s σ H x y v u Q I c d h;obtain⟨a,b,r,rfl,rfl,hc,q⟩:=h;cases c;cases d;obtain⟨e,f,hs⟩:=HH I hu hc;exact DEq.HG ω e f hs ⟨.bl (!r),H,I,rfl,q⟩
def p0:bU X (.builtin "isinstance") (fun xs H Q=>∃a kvs,xs=[.ref a,.ty "dict"]/\H a=some (.dT kvs)/\Q (.bl true) H):=by
 intro aa s σ H xs us Q I r h;obtain⟨a,ys,rfl,b,q⟩:=h;obtain⟨u,e,rfl,c,d⟩:=vals2 r;cases d;exact xp I c (.dT b) (by first|rfl|kernel_rfl|decide +kernel) fun tk=>⟨.bl true,H,I.tok _,rfl,q⟩
end
end L2
end
section
namespace L2
open PySem PySem.Spec PyProof.Rows
def Cl(P:Program)(w:World)(K:Ae)(mg:Str->Option Value)(base:Heap)(CX:dL)(x:Str)(ps:List Str)(k:Nat)(sp:Sp):Prop:=
 ∃(f:Addr)(fd:FuncData),PySem.W.keepIn K (.ref f)=true/\Binds K fd ps []/\mg x=some (.ref f)/\FnOk P w K mg base CX k f fd ps sp
section
variable{X:Cx}{CX:dL}{k n:Nat}{ps:List Str}{sp:Sp}{E:XK}{x:Str}{p pos:Pos}{e:Expr}{es:List Expr}{t:TA}
def zT(C:Cl X.prog X.w X.K X.mg X.base CX x ps k sp)(hr:Room n X.A)(b:Gl X x)(hx:cL CX X E)(c:PA X (e::es) t)(d:k<=n:=by decide)(g:(x==("__debug__":Str))=false:=by decide)
  (he:starEach (e::es) X.env=(false,eval e X.env)::starEach es X.env:=by rfl) (a:(backTo pos (starEach es X.env)).any (·.1)=false:=by rfl):PE X (.Call (.Name x p) (e::es) [] pos) (jY sp [] E t):=by
 obtain⟨f,fd,hk,hb,hm,F⟩:=C;exact zK F (hr.mono d) b hm hk hb .nil hx c g he a
end
section
variable{P:Program}{w:World}{K:Ae}{mg:Str->Option Value}{base:Heap}{CX:dL}{k:Nat}{f:Addr}{fd:FuncData}{x:Str}{st:Stmt}{ps:List Str}{sp sq:Sp}
def FnOk.or(F:FnOk P w K mg base CX k f fd ps sp)(G:FnOk P w K mg base CX k f fd ps sq):FnOk P w K mg base CX k f fd ps (fun vs H Q E=>sp vs H Q E\/sq vs H Q E):=
 ⟨fun vs H Q E h=>h.elim (F.len vs H Q E) (G.len vs H Q E),fun A outer s H args us vs Q E hr he hb a h=>h.elim (F.run A outer s H args us vs Q E hr he hb a) (G.run A outer s H args us vs Q E hr he hb a)⟩
def dD(F:Fun K x x st f fd)(b:Binds K fd ps [])(m:mg x=some (.ref f))(G:FnOk P w K mg base CX k f fd ps sp):Cl P w K mg base CX x ps k sp:=⟨f,fd,F.kp,b,m,G⟩
structure Df(K:Ae)(x:Str)(st:Stmt)(f:Addr):Prop where
 ex:∃fd,Fun K x x st f fd
 a:PySem.W.nsIn K mainGlobals x=some (some (.ref f))
def ww{i:Value}{j g:Option Addr}{h:Array (Option Value)}{kV d e b ct:Value}(a:PySem.W.nsIn K mainGlobals x=some (some (.ref f)))(l:K.lookup f=some ⟨i,j,.func (PySem.W.fnOf x x (zbJ st) (zL st) (ze st) .none kV d e g b ct),h⟩)(c:PySem.W.codeIn K b x=true)(k:PySem.W.keepIn K (.ref f)=true):Df K x st f:=⟨⟨_,DV l c k⟩,a⟩
structure Nn(K:Ae)(x:Str)(v:Option Value):Prop where
 e:PySem.W.nsIn K mainGlobals x=some v
abbrev BA(x:Str)(st:Stmt)(us:List Value)(r:List (Str×Value)):Prop:=∀(kV bh pm:Value)(an:Option Addr)(aq ct:Value),bindArgs (PySem.W.fnOf x x (zbJ st) (zL st) (ze st) .none kV bh pm an aq ct) ⟨us,[]⟩=pure r
variable{h:Heap}(X:K.In h)(G:h.Ns mainGlobals mg)
include X G
theorem Nn.m{v:Value}(n:Nn K x (some v)):mg x=some v:=PySem.W.mg_of X G n.e
theorem Nn.n(n:Nn K x none):mg x=none:=PySem.W.mg_none_of X G n.e
theorem Df.m(D:Df K x st f):mg x=some (.ref f):=PySem.W.mg_of X G D.a
theorem Df.g1(D:Df K x st f)(p:Str)(hb:∀a,BA x st [a] [(p,a)]:=by exact fun _ _ _ _ _ _ _=>rfl):∃fd,Fun K x x st f fd/\Binds K fd [p] []/\mg x=some (.ref f):=by
 obtain⟨⟨fd,F⟩,a⟩:=D;refine⟨fd,F,F.binds fun _ _ _ _ _ _ us b=>?_,PySem.W.mg_of X G a⟩
 match us,b with
 |[a],_=>exact hb a _ _ _ _ _ _
theorem Df.g2(D:Df K x st f)(p q:Str)(hb:∀a b,BA x st [a,b] [(p,a),(q,b)]:=by exact fun _ _ _ _ _ _ _ _=>rfl):∃fd,Fun K x x st f fd/\Binds K fd [p,q] []/\mg x=some (.ref f):=by
 obtain⟨⟨fd,F⟩,a⟩:=D;refine⟨fd,F,F.binds fun _ _ _ _ _ _ us c=>?_,PySem.W.mg_of X G a⟩
 match us,c with
 |[a,b],_=>exact hb a b _ _ _ _ _ _
theorem Df.g3(D:Df K x st f)(p q r:Str)(hb:∀a b c,BA x st [a,b,c] [(p,a),(q,b),(r,c)]:=by exact fun _ _ _ _ _ _ _ _ _=>rfl):∃fd,Fun K x x st f fd/\Binds K fd [p,q,r] []/\mg x=some (.ref f):=by
 obtain⟨⟨fd,F⟩,a⟩:=D;refine⟨fd,F,F.binds fun _ _ _ _ _ _ us d=>?_,PySem.W.mg_of X G a⟩
 match us,d with
 |[a,b,c],_=>exact hb a b c _ _ _ _ _ _
theorem Df.g4(D:Df K x st f)(p q r s:Str)(hb:∀a b c d,BA x st [a,b,c,d] [(p,a),(q,b),(r,c),(s,d)]:=by exact fun _ _ _ _ _ _ _ _ _ _=>rfl):∃fd,Fun K x x st f fd/\Binds K fd [p,q,r,s] []/\mg x=some (.ref f):=by
 obtain⟨⟨fd,F⟩,a⟩:=D;refine⟨fd,F,F.binds fun _ _ _ _ _ _ us e=>?_,PySem.W.mg_of X G a⟩
 match us,e with
 |[a,b,c,d],_=>exact hb a b c d _ _ _ _ _ _
theorem Df.g5(D:Df K x st f)(p q r s u:Str)(hb:∀a b c d e,BA x st [a,b,c,d,e] [(p,a),(q,b),(r,c),(s,d),(u,e)]:=by exact fun _ _ _ _ _ _ _ _ _ _ _=>rfl):∃fd,Fun K x x st f fd/\Binds K fd [p,q,r,s,u] []/\mg x=some (.ref f):=by
 obtain⟨⟨fd,F⟩,a⟩:=D;refine⟨fd,F,F.binds fun _ _ _ _ _ _ us g=>?_,PySem.W.mg_of X G a⟩
 match us,g with
 |[a,b,c,d,e],_=>exact hb a b c d e _ _ _ _ _ _
omit X G
theorem HJ{C:Addr}(a:PySem.W.findIn K (.ref C) "__getattribute__"=some (some (.builtin "BaseException.__getattribute__")))(b:PySem.W.findIn K (.ref C) "__getattr__"=some none)(q:PySem.W.excIn K C i3 "ValueError.__new__"=true)(c:PySem.W.findIn K (.ref C) "__class__"=some (some (.builtin "object.__class__")))(d:PySem.W.specialIn K (.builtin "object.__class__") "__get__"=some (some (.builtin "getset_descriptor.__get__")))(e:PySem.W.takesIn K (.builtin "object.__class__")=some true)(f:PySem.W.mroIn K C (.type "object")=some true)(g:PySem.W.mroIn K C (.type "BaseException")=some true):dR K C:=
 ⟨a,b,Hb q,c,d,e,f,g⟩
end
end L2
end
section
namespace K63
open K1
open PySem L2 STb
abbrev p3:Stmt:=top 38
abbrev p6:Stmt:=top 27
abbrev h_:Stmt:=top 26
abbrev Wd:=List (List Int×Int)
def aS(cs:Wd):List (List Key×V):=cs.map fun c=>((c.1.map Sum.inl:List Key),V.int c.2)
def wv(cs:Wd)(p:List Int):Option Int:=(cs.find? fun c=>decide (c.1=p)).map (·.2)
def wx{p q:List Int}(h:(p.map Sum.inl:List Key)=q.map Sum.inl):p=q:=by
 induction p generalizing q with
 |nil=>cases q with
  |nil=>rfl
  |cons=>simp at h
 |cons x p ih=>cases q with
  |nil=>simp at h
  |cons y q=>simp only[AE,List.cons.injEq,Sum.inl.injEq] at h;rw[h.1,ih h.2]
def ia(cs:Wd)(p:List Int):a6 (aS cs) (p.map Sum.inl)=(wv cs p).map V.int:=by
 unfold a6 aS wv
 induction cs with
 |nil=>rfl
 |cons c cs ih=>
  rw[AE,List.find?_cons,List.find?_cons]
  by_cases e:c.1=p
  ·rw[decide_eq_true (by rw[e]),decide_eq_true e];rfl
  ·rw[decide_eq_false (fun z=>e (wx z)),decide_eq_false e];exact ih
def mr{cs:Wd}{p:List Int}(h:p∈cs.map (·.1)):∃n,wv cs p=some n:=by
 obtain⟨c,hc,rfl⟩:=List.mem_map.mp h;unfold wv;cases e:cs.find? fun d=>decide (d.1=c.1) with
 |none=>exact absurd (List.find?_eq_none.mp e c hc) (by simp)
 |some d=>exact⟨d.2,rfl⟩
def gu(cs:Wd):(aS cs).map (·.1)=(cs.map (·.1)).map (·.map Sum.inl):=by unfold aS;rw[Am,Am];rfl
def bN(cs:Wd)(p:List Int):Prop:=∀r∈rims p,(wv cs r).getD 0<=(wv cs p).getD 0
instance (cs:Wd) (p:List Int):Decidable (bN cs p):=by unfold bN;infer_instance
def dy(a:Ξ)(cs:Wd):Prop:=(cs.map (·.1)).Perm a/\∀p∈a,bN cs p
abbrev BG:TE:=da (eu fun i j=>.bl (decide (i<=j))) (iF (aw 1) (aw 0)) (iF (aw 1) (aw 2))
abbrev wy(K:Ae):List V->Hp->VK->Prop:=fun xs H Q=>∃p ys,xs=[.ref p]/\(SqL K H p ys\/SqT K H p ys)/\Q (.int ys.length) H
abbrev mu(K:Ae):TT:=jr (da (eu fun i j=>.bl (decide (j<i))) (gQ (wy K) (ci (aw 1) bc)) (tC (.int 1)))
section
variable{P:Program}{w:World}{K:Ae}{mg:Str->Option Value}{base:Heap}
def HK{H2:Hp}{a D:Addr}{ps:List Int}{Q:VK}(h:Tp H2 a ps)(hz:ps.length<=5)(r:H2 D=none)(k:∀(H3:Hp)(bs:List Addr),Same H2 H3->H3 D=some (.lst (bs.map V.ref))->Tps H3 bs (rims ps)->Q (.ref D) H3):bW (gM 0 ps.length) (cg 0) (mu K) hX [none,some (.ref a)] H2 D Q:=by
 refine yi (fun j σ ys H3=>∃(v:Option V)(bs:List Addr),σ=[v,some (.ref a)]/\Same H2 H3/\H3 D=some (.lst ys)/\ys=bs.map V.ref/\Tps H3 bs ((rims ps).take j)) ?_ ?_ ?_
 ·exact⟨none,[],rfl,Same.new r,za,rfl,by rw[List.take_zero];exact .nil⟩
 ·rintro j σ ys H3 f hy ⟨v,bs,rfl,b,c,rfl,hb⟩
  refine⟨_,rfl,a,_,rfl,.inr (SqT.of (b.tp h)),_,_,rfl,rfl,_,rfl,?_⟩;rw[Ab]
  by_cases h1:ps.length=1
  ·have g:rims ps=[]:=by unfold rims;rw[if_pos h1]
   rw[decide_eq_false ω];refine aB (ez f hy ⟨_,bs,rfl,b,c,rfl,?_⟩);rw[g] at hb ⊢;rw[List.take_nil] at hb ⊢;exact hb
  ·have g:rims ps=(Bb ps.length).map fun k=>ps.take k++ps.drop (k+1):=by unfold rims;rw[if_neg h1]
   rw[decide_eq_true ω];refine aT ?_;have e:(rims ps)[j]?=some (ps.take j++ps.drop (j+1)):=by rw[g,Ak,List.getElem?_range f];rfl
   refine⟨_,rfl,_,rfl,_,rfl,a,_,rfl,b.tp h,fun s x i l=>⟨_,rfl,_,rfl,_,_,rfl,rfl,_,rfl,a,_,rfl,i _ _ (b.tp h),fun p2 y o p=>?_⟩⟩;rw[show(0:Int)+((j:Nat):Int)=((j:Nat):Int) from ω,mf _ _ (by rw[Ab];omega),<-List.map_take] at l;rw[show(0:Int)+((j:Nat):Int)+1=((j+1:Nat):Int) from ω,mj _ _ (by rw[Ab];omega),<-List.map_drop] at p;refine⟨s,p2,_,_,rfl,rfl,o _ _ l,p,zf (by simp;omega),fun u A w q=>?_⟩;rw[<-Av] at q;have d:=(i.trans o).trans w;refine bb (zf ω) f hy (d _ _ c) ⟨_,bs++[u],rfl,(b.trans d).then r,za,by rw[Av];rfl,?_⟩;rw[AX e];exact Tps.upd (Tps.snoc (d.tps hb) q) (d _ _ c) (by intro xs z;cases z)
 ·rintro σ ys H3 ⟨v,bs,rfl,b,c,rfl,hb⟩
  rw[Ax (pw ps)] at hb;exact k H3 bs b c hb
def HL:zw ["piece"] ["piece"] (ze p3):=⟨rfl,rfl,rfl,δ,rfl,δ,δ⟩
def HM{f:Addr}{fd:FuncData}(F:Fun K "_law_rims" "_law_rims" p3 f fd)(B:Bt mg):FnOk P w K mg base aC 1 f fd ["piece"] ml:=by
 refine F.ok HL (fun vs H Q E h=>?_) (fun l A outer s H vs Q E hr h=>?_)
 ·obtain⟨a,ps,rfl,_⟩:=h;rfl
 ·obtain⟨a,ps,rfl,d,j,k⟩:=h
  refine⟨_,zd (zn (zy ["piece"] ["k","piece"] [none,some 0] (iC rfl B.range (ac (zi zm rfl B.len dh (ac (pv 0) ai)) ai)) (fun b C s₀ H₀ ex=>zr (i:=0) (cK ["k","piece"]) rfl (Or.inl rfl))
    (fun b C s₀ H₀ ex=>lC (zk lf (zi zm rfl B.len dh (ac (pv 1) ai)) zg (al _)))
    (fun b C s₀ H₀ ex=>zz nY (j1 oI (pv 1) jZ (j0 (pv 0))) (j1 oI (pv 1) (j0 (zz fe (pv 0) zg)) jZ)) (hfr:=b9 (ze p3) δ) (tc:=mu K) (te:=hX))),?_⟩
  refine⟨_,rfl,a,_,rfl,.inr (SqT.of d),_,rfl,by rw[Ab];omega,by rw[Ab];omega,fun D c=>?_⟩;rw[Ab];exact zF (HK d j c fun H3 bs e g hb=>k D H3 bs e c g hb)
def HN{H2:Hp}{L d a D:Addr}{as:List Addr}{f:Ξ}{p:List Int}{n:Int}{cs:Wd}{Q:VK}(y:SqL K H2 L (as.map V.ref))(l:Tps H2 as f)(hz:f.length<=5)(hd:H2 d=some (.dT (aS cs)))(z:Tp H2 a p)(A:wv cs p=some n)(hr:∀r∈f,∃m,wv cs r=some m)(q:H2 D=none)(k:∀(H3:Hp),Same H2 H3->H3 D=some (.lst ((f.map fun r=>decide ((wv cs r).getD 0<=n)).map V.bl))->Q (.ref D) H3):bW (di K L) (cg 0) bq BG [none,some (.ref d),some (.ref a)] H2 D Q:=by
 have C:=l.length;refine zI (xs:=as.map V.ref) (fun j σ ys H3=>∃(v:Option V),σ=[v,some (.ref d),some (.ref a)]/\Same H2 H3/\H3 D=some (.lst ys)/\ys=((f.map fun r=>decide ((wv cs r).getD 0<=n)).take j).map V.bl) ?_ ?_ ?_ ?_
 ·exact⟨none,rfl,Same.new q,za,rfl⟩
 ·rintro j σ ys H3 ⟨v,rfl,c,g,rfl⟩
  exact c.seq y
 ·rintro j σ ys H3 x hx s hy ⟨v,rfl,c,g,rfl⟩
  obtain⟨o,u,rfl⟩:=zV hx;obtain⟨r,i,w⟩:=l.get u;obtain⟨m,hm⟩:=hr r (An i);have h:(as.map V.ref).length<=sizeLine:=by rw[Ab];exact zf ω
  have e:(f.map fun r=>decide ((wv cs r).getD 0<=n))[j]?=some (decide (m<=n)):=by rw[Ak,i];show some (decide ((wv cs r).getD 0<=n))=_;rw[hm];rfl
  have g1:DGet H3 d (.ref o) (some (.int m)):=by
   have:=DGet.t (k:=r.map Sum.inl) (b:=o) (c _ _ hd) (by rw[Am];exact c.tp w)
   rwa [ia,hm] at this
  have g2:DGet H3 d (.ref a) (some (.int n)):=by
   have:=DGet.t (k:=p.map Sum.inl) (b:=a) (c _ _ hd) (by rw[Am];exact c.tp z)
   rwa [ia,A] at this
  refine bH ⟨_,rfl,_,rfl,d,_,rfl,g1,_,rfl,_,rfl,d,_,rfl,g2,_,_,rfl,rfl,?_⟩;exact bb h s hy g ⟨_,rfl,c.then q,za,by rw[AX e,Av];rfl⟩
 ·rintro σ ys H3 ⟨v,rfl,c,g,rfl⟩
  rw[Ax (by rw[Ab,Ab];omega)] at g;exact k H3 c g
def ib:Sp:=fun vs H Q _=>∃a d p n cs,vs=[.ref a,.ref d]/\Tp H a p/\p.length<=5/\H d=some (.dT (aS cs))/\wv cs p=some n/\(∀r∈rims p,∃m,wv cs r=some m)/\∀H',Same H H'->Q (.bl (decide (bN cs p))) H'
def wB:zw ["piece","worths"] ["piece","worths"] (ze p6):=⟨rfl,rfl,rfl,δ,rfl,δ,δ⟩
def HP{f:Addr}{fd:FuncData}(F:Fun K "is_above_rims" "is_above_rims" p6 f fd)(B:Bt mg)(G:Cl P w K mg base aC "rims_of" ["piece"] 1 ml):FnOk P w K mg base aC 2 f fd ["piece","worths"] ib:=by
 refine F.ok wB (fun vs H Q E h=>?_) (fun I A outer s H vs Q E hr h=>?_)
 ·obtain⟨a,d,p,n,cs,rfl,_⟩:=h;rfl
 ·obtain⟨a,d,p,n,cs,rfl,l,o,hd,q,y,k⟩:=h
  have hu:=ey hr;refine⟨_,zd (zn (zi (nW rfl) rfl B.all oS (ac (zy ["piece","worths"] ["rim","worths","piece"] [none,some 1,some 0] (zA (zT G hr rfl ao (ac (pv 0) ai))) (fun g C s₀ H₀ ex=>zr (i:=0) (cK ["rim","worths","piece"]) rfl (Or.inl rfl)) (fun g C s₀ H₀ ex=>zS)
   (fun g C s₀ H₀ ex=>ro nF (fE hu (pv 1) (pv 0) (fun _ _=>rfl)) (fE hu (pv 1) (pv 2) (fun _ _=>rfl)) (al _)) (hfr:=b9 (ze p6) δ) (te:=BG)) ai))),?_⟩
  refine⟨_,rfl,a,p,rfl,l,o,fun L H2 bs c J j hb=>⟨L,rfl,⟨_,SqL.of j⟩,fun D u=>zF (HN (SqL.of j) hb (AF (pw p) o) (c _ _ hd) (c.tp l) q y u fun H3 v x=>⟨D,_,rfl,SqL.of x,?_⟩)⟩⟩;have e:((rims p).map fun r=>decide ((wv cs r).getD 0<=n)).all id=decide (bN cs p):=by
   rw[Bool.eq_iff_iff,List.all_eq_true,decide_eq_true_eq];unfold bN;rw[q];constructor
   ·intro z r hr;exact of_decide_eq_true (z _ (List.mem_map.mpr ⟨r,hr,rfl⟩))
   ·intro z b hb
    obtain⟨r,hr,rfl⟩:=List.mem_map.mp hb;exact decide_eq_true (z r hr)
  rw[e];exact k H3 (c.trans v)
def HQ{H2:Hp}{L d D:Addr}{as:List Addr}{a:Ξ}{cs:Wd}{Q:VK}(y:SqL K H2 L (as.map V.ref))(h:Tps H2 as a)(hz:a.length<=64)(hd:H2 d=some (.dT (aS cs)))(z:∀p∈a,p.length<=5)(i:∀p∈a,∃n,wv cs p=some n)(hr:∀p∈a,∀r∈rims p,r∈a)(l:H2 D=none)(k:∀(H3:Hp),Same H2 H3->H3 D=some (.lst ((a.map fun p=>decide (bN cs p)).map V.bl))->Q (.ref D) H3):bW (di K L) (cg 0) bq (jY ib [] E0 (ci (aw 0) (ci (aw 1) bc))) [none,some (.ref d)] H2 D Q:=by
 have A:=h.length;refine zI (xs:=as.map V.ref) (fun j σ ys H3=>∃(v:Option V),σ=[v,some (.ref d)]/\Same H2 H3/\H3 D=some (.lst ys)/\ys=((a.map fun p=>decide (bN cs p)).take j).map V.bl) ?_ ?_ ?_ ?_
 ·exact⟨none,rfl,Same.new l,za,rfl⟩
 ·rintro j σ ys H3 ⟨v,rfl,b,c,rfl⟩
  exact b.seq y
 ·rintro j σ ys H3 x hx s hy ⟨v,rfl,b,c,rfl⟩
  obtain⟨o,u,rfl⟩:=zV hx;obtain⟨p,ep,hp⟩:=h.get u;have hm:=An ep;obtain⟨n,w⟩:=i p hm;have f:(as.map V.ref).length<=sizeLine:=by rw[Ab];exact zf ω
  have e:(a.map fun p=>decide (bN cs p))[j]?=some (decide (bN cs p)):=by rw[Ak,ep];rfl
  refine bH ⟨_,rfl,_,rfl,o,d,p,n,cs,rfl,b.tp hp,z p hm,b _ _ hd,w,fun r q=>i r (hr p hm r q),fun C g=>?_⟩;exact bb f s hy (g _ _ c) ⟨_,rfl,(b.trans g).then l,za,by rw[AX e,Av];rfl⟩
 ·rintro σ ys H3 ⟨v,rfl,b,c,rfl⟩
  rw[Ax (by rw[Ab,Ab];omega)] at c;exact k H3 b c
def BH{c:Type}[DecidableEq c]{l m:List c}(nl:l.Nodup)(nm:m.Nodup):l.Perm m↔(dd l).length=(dd m).length/\∀x∈dd l,x∈dd m:=by
 have a:(dd l).Perm l:=(List.perm_ext_iff_of_nodup (STb.vW l) nl).mpr fun x=>STb.iZ l x;have b:(dd m).Perm m:=(List.perm_ext_iff_of_nodup (STb.vW m) nm).mpr fun x=>STb.iZ m x;constructor
 ·intro h
  exact⟨by rw[a.length_eq,b.length_eq,h.length_eq],fun x hx=>b.mem_iff.mpr (h.mem_iff.mp (a.mem_iff.mp hx))⟩
 ·rintro⟨h1,h2⟩
  rw[a.length_eq,b.length_eq] at h1;have sub:∀x∈l,x∈m:=fun x hx=>b.mem_iff.mp (h2 x (a.mem_iff.mpr hx));refine(List.perm_ext_iff_of_nodup nl nm).mpr fun x=>⟨sub x,fun hx=>?_⟩;apply Classical.byContradiction;intro z;have:=(List.nodup_cons.mpr ⟨z,nl⟩).length_le_of_subset (l₂:=m) (fun y hy=>by
   rcases List.mem_cons.mp hy with rfl|hy
   ·exact hx
   ·exact sub y hy)
  rw[Aw] at this;omega
def BI(K:Ae):Sp:=fun vs H Q _=>∃l d as a cs,vs=[.ref l,.ref d]/\SqL K H l (as.map V.ref)/\Tps H as a/\a.Nodup/\a.length<=56/\(∀p∈a,p.length<=5)/\(∀p∈a,∀r∈rims p,r∈a)/\H d=some (.dT (aS cs))/\(cs.map (·.1)).Nodup/\cs.length<=57/\
 ∀b H',(b=true↔dy a cs)->Same H H'->Q (.bl b) H'
def HR:zw ["every","worths"] ["every","worths"] (ze h_):=⟨rfl,rfl,rfl,δ,rfl,δ,δ⟩
def HS{f:Addr}{fd:FuncData}(F:Fun K "are_worths" "are_worths" h_ f fd)(B:Bt mg)(Ca:Cl P w K mg base aC "is_above_rims" ["piece","worths"] 2 ib):FnOk P w K mg base aC 3 f fd ["every","worths"] (BI K):=by
 refine F.ok HR (fun vs H Q E h=>?_) (fun aq A outer s H vs Q E hr h=>?_)
 ·obtain⟨l,d,as,a,cs,rfl,_⟩:=h;rfl
 ·obtain⟨l,d,as,a,cs,rfl,v,x,T,bf,U,W,hd,X,j5,k⟩:=h
  have hu:=ey hr;refine⟨_,zb (zP (zk (GR hr.units) (zq (GH hr.units) rfl B.set l3 (ac (pv 1) ai)) (zq (GG rfl hr.units) rfl B.set l3 (ac (pv 0) ai)) (al _)) (zd (zn zY)) zt)
   (zd (zn (zi (nW rfl) rfl B.all oS (ac (zy ["every","worths"] ["piece","worths"] [none,some 1] (zA (pv 0)) (fun y C s₀ H₀ ex=>zr (i:=0) (cK ["piece","worths"]) rfl (Or.inl rfl)) (fun y C s₀ H₀ ex=>zS)
    (fun y C s₀ H₀ ex=>zT Ca hr rfl ao (ac (pv 0) (ac (pv 1) ai))) (hfr:=b9 (ze h_) δ) (te:=jY ib [] E0 (ci (aw 0) (ci (aw 1) bc)))) ai)))),?_⟩
  have hp:=BH X T;refine⟨_,rfl,d,aS cs,cs.map (·.1),rfl,.inl hd,gu cs,by rw[Ab];omega,fun G L I u=>⟨_,rfl,l,as,a,rfl,(Same.new u).seq v,(Same.new u).tps x,ω,fun J M=>?_⟩⟩;have r:=Same.new (o:=cU P w I (dd (cs.map (·.1))) G) u;have j:=Same.new (o:=cU P w J (dd a) (a.zip as)) M;refine⟨I,J,_,_,G,a.zip as,rfl,rfl,j _ _ za,za,L.mono (r.trans j),(TB.zip x).mono (r.trans j),_,rfl,?_⟩
  by_cases e:(cs.map (·.1)).Perm a
  ·have e':=hp.mp e
   rw[decide_eq_true e'.1,decide_eq_true e'.2];refine aB ?_;have q:=r.trans j;have Y:∀p∈a,∃n,wv cs p=some n:=fun p g=>mr (e.mem_iff.mpr g);refine⟨_,rfl,l,rfl,⟨_,q.seq v⟩,fun D N=>zF (HQ (q.seq v) (q.tps x) ω (q _ _ hd) U Y W N fun H3 O S=>⟨D,_,rfl,SqL.of S,k _ H3 ?_ (q.trans O)⟩)⟩;rw[List.all_eq_true];constructor
   ·intro z
    exact⟨e,fun p g=>of_decide_eq_true (z _ (List.mem_map.mpr ⟨p,g,rfl⟩))⟩
   ·rintro⟨_,z⟩ b hb
    obtain⟨p,g,rfl⟩:=List.mem_map.mp hb;exact decide_eq_true (z p g)
  ·have e':(decide ((dd (cs.map (fun c:List Int×Int=>c.1))).length=(dd a).length)&&decide (∀k∈dd (cs.map (fun c:List Int×Int=>c.1)),k∈dd a))=false:=by
    cases z:(decide ((dd (cs.map (fun c:List Int×Int=>c.1))).length=(dd a).length)&&decide (∀k∈dd (cs.map (fun c:List Int×Int=>c.1)),k∈dd a)) with
    |false=>rfl
    |true=>
     rw[AN,decide_eq_true_eq,decide_eq_true_eq] at z;exact absurd (hp.mpr z) e
   rw[e'];refine aT (k false _ ⟨(fun z=>by cases z),fun z=>absurd z.1 e⟩ (r.trans j))
end
end K63
end
section
namespace K63
open K1
open PySem L2
abbrev p8:Stmt:=top 40
def wC(C:Addr)(i:Nat)(b:Bool):TE:=fun σ H Q=>∃x,σ[i]?=some (some (.ref x))/\H x=some (dw x C)/\Q (.bl b) H
section
variable{X:Cx}
def kE{n a:Str}{i:Nat}{C d:Addr}{b:Bool}{g f j pos:Pos}(l:dR X.K C)(y:Ba X.K (.ref C) (.ref d)=some b)(o:X.mg "isinstance"=none)(p:X.mg a=some (.ref d))(r:Gl X "isinstance")(w:Gl X a)(he:PE X (.Name n f) (aw i))(z:(a==("__debug__":Str))=false:=by decide):PE X (.Call (.Name "isinstance" g) [.Name n f,.Name a j] [] pos) (wC C i b):=by
 intro aa s σ H Q I h;obtain⟨x,e,hx,q⟩:=h;refine(show PE X _ _ from zi (Bv (c:=.ref d) (fun u h=>h) l y) r o zE (ac he (ac (jT (v:=.ref d) w p rfl (hd:=z)) ai))) aa s σ H Q I ?_;exact⟨_,e,x,rfl,hx,q⟩
end
structure Mk(K:Ae)(C f0 f1 f2 f3 f4 f5:Addr)(b1 b2:Bool):Prop where
 xc:dR K C
 y0:Ba K (.ref C) (.ref f0)=some false
 y1:Ba K (.ref C) (.ref f1)=some false
 y2:Ba K (.ref C) (.ref f2)=some false
 y3:Ba K (.ref C) (.ref f3)=some b1
 y4:Ba K (.ref C) (.ref f4)=some b2
 y5:Ba K (.ref C) (.ref f5)=some false
 yv:Ba K (.ref C) (.type "ValueError")=some true
section
variable{P:Program}{w:World}{K:Ae}{mg:Str->Option Value}{base:Heap}
def BJ(fO fN:Addr):Sp:=fun vs H Q _=>∃x,vs=[.ref x]/\((H x=some (dw x fO)/\∀H',Same H H'->Q (.str "order") H')\/(H x=some (dw x fN)/\∀H',Same H H'->Q (.str "number") H'))
def wD:zw ["e","marks"] ["e"] (ze p8):=⟨rfl,rfl,rfl,δ,rfl,δ,δ⟩
def HU{f I f1 f2 g j f5:Addr}{fd:FuncData}(F:Fun K "_law_which" "_law_which" p8 f fd)(l:mg "isinstance"=none)(T:mg "ValueError"=none)(U:mg "NoWeb"=some (.ref I))(W:mg "NoPiece"=some (.ref f1))(X:mg "NoPush"=some (.ref f2))(Y:mg "NoOrder"=some (.ref g))(m4:mg "NoNumber"=some (.ref j))(m5:mg "NoChain"=some (.ref f5))(M1:Mk K g I f1 f2 g j f5 true false)(M2:Mk K j I f1 f2 g j f5 false true):mm P w K mg base 1 f fd ["e"] (BJ g j):=by
 refine F.okN wD (fun vs H Q E h=>?_) (fun aq A outer s H vs Q E hr h=>?_)
 ·obtain⟨x,rfl,_⟩:=h;rfl
 ·obtain⟨x,rfl,h⟩:=h
  have G:∃C b d st,Mk K C I f1 f2 g j f5 b d/\H x=some (dw x C)/\((b=true/\d=false/\st="order")\/(b=false/\d=true/\st="number"))/\∀H',Same H H'->Q (.str st) H':=by
   rcases h with ⟨h,k⟩|⟨h,k⟩
   ·exact⟨g,true,false,"order",M1,h,.inl ⟨rfl,rfl,rfl⟩,k⟩
   ·exact⟨j,false,true,"number",M2,h,.inr ⟨rfl,rfl,rfl⟩,k⟩
  obtain⟨C,b,d,st,M,hx,hb,k⟩:=G;refine⟨_,zb (zu (i:=1) wD.nd rfl (Or.inl rfl) (zJ (ac (kE M.xc M.y0 l U rfl rfl (pv 0)) (ac (kE M.xc M.y1 l W rfl rfl (pv 0)) (ac (kE M.xc M.y2 l X rfl rfl (pv 0)) (ac (kE M.xc M.y3 l Y rfl rfl (pv 0)) ai))))))
   (zb (zu (i:=1) wD.nd rfl (Or.inl rfl) (zz j7 (pv 1) (zJ (ac (kE M.xc M.y4 l m4 rfl rfl (pv 0)) (ac (kE M.xc M.y5 l m5 rfl rfl (pv 0)) ai)))))
   (zb (zP (PW.pt (gf (zk nA (jt PySem.F.plainAttrs_list PySem.F.slot_list_count PySem.F.type_list_count G_ (pv 1) (ac zY ai)) zg (al _)) (f_ (dY (et (zi (Bv (c:=.ty "ValueError") (fun u h=>h) M.xc M.yv) rfl l zE (ac (pv 0) (ac (gH (v:=.ty "ValueError") rfl T PyProof.Rows.Boot.«ValueError» rfl) ai))))))))
     (zd (zn pe_str)) zt)
    (zd (zn (bO zG (zJ (ac pe_str (ac pe_str (ac pe_str (ac pe_str (ac pe_str (ac pe_str ai))))))) (jt PySem.F.plainAttrs_list PySem.F.slot_list_index PySem.F.type_list_index G' (pv 1) (ac zY ai)) (fun _ _=>rfl)))))),?_⟩
  refine⟨x,rfl,hx,x,rfl,hx,x,rfl,hx,x,rfl,hx,zf (by simp),fun p hp=>?_⟩;have L:=Same.new (o:=.lst [.bl false,.bl false,.bl false,.bl b]) hp;refine⟨_,rfl,x,rfl,L _ _ hx,x,rfl,L _ _ hx,zf (by simp),fun p2 N=>?_⟩;have S:=L.trans (Same.new (o:=.lst [.bl d,.bl false]) N);refine⟨p,p2,_,_,rfl,rfl,(Same.new N) _ _ za,za,zf (by simp),fun r O=>?_⟩;have D:=S.trans (Same.new (o:=.lst [.bl false,.bl false,.bl false,.bl b,.bl d,.bl false]) O);have q:=za (H:=upd (upd H p (.lst [.bl false,.bl false,.bl false,.bl b])) p2 (.lst [.bl d,.bl false])) (a:=r) (o:=.lst [.bl false,.bl false,.bl false,.bl b,.bl d,.bl false]);rcases hb with ⟨rfl,rfl,rfl⟩|⟨rfl,rfl,rfl⟩
  ·refine⟨_,rfl,.inl ⟨rfl,_,SqL.of q⟩,r,_,.bl true,rfl,rfl,q,rfl,?_⟩
   refine⟨rfl,rfl,false,(by first|rfl|decide),aB ⟨_,rfl,x,rfl,D _ _ hx,?_⟩⟩;refine⟨true,rfl,aB ⟨zf (by simp),fun J y=>?_⟩⟩;have z:=(Same.new (o:=.lst [.str "web",.str "piece",.str "push",.str "order",.str "number",.str "chain"]) y) _ _ q;refine⟨_,rfl,.inl ⟨rfl,_,SqL.of z⟩,r,_,.bl true,3,rfl,rfl,z,ξ,rfl,ξ,ξ,(fun m hm=>?_),J,_,3,_,rfl,rfl,SqL.of za,rfl,k _ (D.trans (Same.new y))⟩;have:m=0\/m=1\/m=2:=ω
   rcases this with rfl|rfl|rfl<;>decide
  ·refine⟨_,rfl,.inl ⟨rfl,_,SqL.of q⟩,r,_,.bl true,rfl,rfl,q,rfl,?_⟩
   refine⟨rfl,rfl,false,(by first|rfl|decide),aB ⟨_,rfl,x,rfl,D _ _ hx,?_⟩⟩;refine⟨true,rfl,aB ⟨zf (by simp),fun J y=>?_⟩⟩;have z:=(Same.new (o:=.lst [.str "web",.str "piece",.str "push",.str "order",.str "number",.str "chain"]) y) _ _ q;refine⟨_,rfl,.inl ⟨rfl,_,SqL.of z⟩,r,_,.bl true,4,rfl,rfl,z,ξ,rfl,ξ,ξ,(fun m hm=>?_),J,_,4,_,rfl,rfl,SqL.of za,rfl,k _ (D.trans (Same.new y))⟩;have:m=0\/m=1\/m=2\/m=3:=ω
   rcases this with rfl|rfl|rfl|rfl<;>decide
end
end K63
end
section
namespace L2
open PySem PySem.Spec PyProof.Rows
def zH.tp{H H':Hp}{a:Addr}{ps:List Int}(e:zH H H')(h:Tp H a ps):Tp H' a ps:=e _ _ (fun _ z=>nomatch z) h
def zH.tps{H H':Hp}{as:List Addr}{pss:Ξ}(e:zH H H')(h:Tps H as pss):Tps H' as pss:=Paired.mapP h fun _ _ q=>e.tp q
def zH.seq{K:Ae}{H H':Hp}{l:Addr}{xs:List V}(e:zH H H')(h:SqL K H l xs):SqL K H' l xs:=by
 rcases h with (z|⟨o,z⟩)|z
 ·exact .inl (.inl (e _ _ (fun _ q=>nomatch q) z))
 ·exact .inl (.inr ⟨o,e _ _ (fun _ q=>nomatch q) z⟩)
 ·exact .inr z
def zH.free{H H':Hp}{P:Addr}{pos:Pos}{a:Str}(e:zH H H')(c:∀b ps,b≠P->H b=some (.tbl ps)->H' b=some (.tbl ps))(tb:Tab H' P pos a){l:Addr}(h:H' l=none):H l=none:=by
 cases q:H l with
 |none=>rfl
 |some o=>
  have:H' l=some o:=by
   by_cases z:∃ps,o=.tbl ps
   ·obtain⟨ps,rfl⟩:=z
    refine c l ps (fun y=>?_) q;subst y;rcases tb with t|⟨_,t,_⟩<;>(rw[h] at t;cases t)
   ·exact e l o (fun ps y=>z ⟨ps,y⟩) q
  rw[h] at this;cases this
def HV{H:Hp}{as:List Addr}{pss:Ξ}(h:Tps H as pss)(f:pss.Nodup):as.Nodup:=by
 induction h with
 |nil=>exact List.nodup_nil
 |@cons a ps as pss q t ih=>
  obtain⟨n1,n2⟩:=List.nodup_cons.mp f;refine List.nodup_cons.mpr ⟨fun hm=>?_,ih n2⟩;obtain⟨i,e⟩:=List.mem_iff_getElem?.mp hm;obtain⟨p,e1,e2⟩:=Tps.get t e;have e3:H a=some (.tup (p.map V.int)):=e2;have c:H a=some (.tup (ps.map V.int)):=q;rw[e3] at c;have d:p.map V.int=ps.map V.int:=by injection c with c;injection c
  have:p=ps:=(List.map_inj_right (fun a b z=>by injection z)).mp d;subst this;exact n1 (An e1)
def HW{p y:Str}:∀x,([(p,NameKind.local),(y,Bi)]:List (Str×NameKind)).lookup x=some .free->x=y:=fun x h=>by
 rw[AY] at h;cases h1:x==p with
 |true=>rw[h1] at h;cases h
 |false=>
  rw[h1] at h;have h':([(y,Bi)]:List (Str×NameKind)).lookup x=some .free:=h;rw[AY] at h';cases h2:x==y with
  |true=>exact eq_of_beq h2
  |false=>rw[h2] at h';cases h'
end L2
end
section
namespace K1
open PySem L2 STb
def bT(a:Ξ):List Int:=(a.filter fun p=>decide (p.length=1)).map fun p=>p.headD 0
end K1
end
section
namespace L2
open PySem PySem.Spec PyProof.Rows
def Fun.ok1c{P:Program}{w:World}{K:Ae}{mg:Str->Option Value}{base:Heap}{x a:Str}{st:Stmt}{f c:Addr}{fd:FuncData}{N ps:List Str}{k:Nat}{sp:Sp}(F:Fun K x a st f fd)(hc:fd.code=.ref c)(S:zw N ps (ze st))(len:∀vs H Q E,sp vs H Q E->vs.length=ps.length)(h:∀(A:Around)(outer:List Env)(s:Shared)(H:Hp)(vs:List V)(Q:VK)(E:XK),Room k (A.deeper (envOfC a (ze st) s⁻¹ f (.ref c)))->sp vs H Q E->
   ∃t,PSs (a0 (fm P w) P w K mg base N a (ze st) f (.ref c) A outer s H E) (zL st) t/\t {nx:=fun _ H'=>Q .non H',rt:=Q} (start N vs) H):FnOk P w K mg base (fm P w) (k+1) f fd ps sp:=by
 obtain⟨i,j,kV,l,o,p,d,ct,q,rfl,lk,g⟩:=F.ex;have e:d=.ref c:=hc;subst e;exact rx lk g S len fun A outer s H vs Q E hr b=>h A outer s H vs Q E hr b
end L2
namespace K63
open K1
open PySem L2 STb
abbrev wE:Stmt:=top 23
abbrev jS:Stmt:=top 25
abbrev wF(K:Ae):TT:=jr (da xl (gQ (wy K) (ci (aw 0) bc)) (tC (.int 1)))
abbrev wG(K:Ae):TE:=da (eE K) (aw 0) (tC (.int 0))
section
variable{P:Program}{w:World}{K:Ae}{mg:Str->Option Value}{base:Heap}
def BK{H2:Hp}{L D:Addr}{as:List Addr}{c:Ξ}{Q:VK}(l:SqL K H2 L (as.map V.ref))(e:Tps H2 as c)(hz:c.length<=1000)(f:H2 D=none)(k:∀H3,Same H2 H3->H3 D=some (.lst ((bT c).map V.int))->Q (.ref D) H3):bW (di K L) (cg 0) (wF K) (wG K) [none] H2 D Q:=by
 have h:=e.length;refine zI (xs:=as.map V.ref) (fun j σ ys H3=>∃v:Option V,σ=[v]/\Same H2 H3/\H3 D=some (.lst ys)/\ys=(bT (c.take j)).map V.int) ?_ ?_ ?_ ?_
 ·exact⟨none,rfl,Same.new f,za,rfl⟩
 ·rintro j σ ys H3 ⟨v,rfl,a,b,rfl⟩
  exact a.seq l
 ·rintro j σ ys H3 x hx d hy ⟨v,rfl,a,b,rfl⟩
  obtain⟨o,g,rfl⟩:=zV hx;obtain⟨p,ep,hp⟩:=e.get g;have i:(as.map V.ref).length<=sizeLine:=by rw[Ab];exact zf ω
  refine⟨_,rfl,o,_,rfl,.inr (SqT.of (a.tp hp)),rfl,_,rfl,?_⟩
  by_cases h1:p.length=1
  ·rw[show decide (V.int ((p.map V.int).length:Int)=V.int 1)=true from decide_eq_true (by rw[Ab,h1];rfl)]
   obtain⟨x,rfl⟩:∃x,p=[x]:=by
    match p,h1 with
    |[x],_=>exact⟨x,rfl⟩
   refine aT ⟨_,rfl,o,_,_,.int x,rfl,rfl,SqT.of (a.tp hp),ff (j:=0) rfl,bb i d hy b ⟨_,rfl,a.then f,za,?_⟩⟩;unfold bT;rw[AX ep,List.filter_append,Av,Av]
   rfl
  ·rw[show decide (V.int ((p.map V.int).length:Int)=V.int 1)=false from decide_eq_false fun z=>h1 (by injection z with z;rw[Ab] at z;omega)]
   refine aB (ez d hy ⟨_,rfl,a,b,?_⟩);unfold bT;rw[AX ep,List.filter_append,List.filter_cons_of_neg (by rw[decide_eq_false h1];decide),List.filter_nil,List.append_nil]
 ·rintro σ ys H3 ⟨v,rfl,a,b,rfl⟩
  rw[Ab,h,Ax (Ah _)] at b;exact k H3 a b
def BL(K:Ae):Sp:=fun vs H Q _=>∃l as pss,vs=[.ref l]/\SqL K H l (as.map V.ref)/\Tps H as pss/\du pss/\∀D H2,Same H H2->H D=none->H2 D=some (.lst ((bT (canon pss)).map V.int))->Q (.ref D) H2
def HX:zw ["web"] ["web"] (ze wE):=⟨rfl,rfl,rfl,δ,rfl,δ,δ⟩
def HY{f fp:Addr}{fd a:FuncData}(F:Fun K "points" "points" wE f fd)(B:Bt mg)(Fp:Fun K "pieces" "pieces" pE fp a)(q:Binds K a ["web"] [])(r:mg "pieces"=some (.ref fp))(u:FnOk P w K mg base aC 8 fp a ["web"] (pF K)):FnOk P w K mg base aC 9 f fd ["web"] (BL K):=by
 refine F.ok HX (fun vs H Q E h=>?_) (fun v A outer s H vs Q E hr h=>?_)
 ·obtain⟨l,as,pss,rfl,_⟩:=h;rfl
 ·obtain⟨l,as,pss,rfl,o,p,hw,k⟩:=h
  obtain⟨_,_,_,y⟩:=pu hw.1;refine⟨_,zd (zn (zy ["web"] ["piece"] [none] (zA (zK u hr rfl r Fp.kp q .nil ao (ac (pv 0) ai))) (fun b C s₀ H₀ ex=>zr (i:=0) (cK ["piece"]) rfl (Or.inl rfl))
   (fun b C s₀ H₀ ex=>lC (zk c5 (zi zm rfl B.len dh (ac (pv 0) ai)) zg (al _))) (fun b C s₀ H₀ ex=>bO j3 (pv 0) zg (fun _ _=>rfl)) (hfr:=cS δ) (tc:=wF K) (te:=wG K))),?_⟩
  refine⟨_,rfl,l,as,pss,rfl,o,p,hw,fun L H2 bs c x d hb=>⟨L,rfl,⟨_,SqL.of d⟩,fun D e=>zF (BK (SqL.of d) hb (by rw[o_];omega) e fun H3 g j=>k D H3 (c.trans g) (c.free e) j)⟩⟩
def wk(cs:Wd)(p:List Int):List Int:=(wv cs p).getD 0::key p
def ic(cs:Wd)(c os:Ξ):Prop:=os.Perm c/\os.Pairwise fun a b=>HT.lexLt (wk cs b) (wk cs a)=false
def HZ{cs:Wd}{c:Ξ}{as:List Addr}{H:Hp}{d:List (List Int×Addr)}(A:c.Nodup)(hs:c.Pairwise fun a b=>HT.lexLt (key b) (key a)=false)(s:Tps H as c)(hp:d.Perm ((aF.eP (c.map fun p=>(wv cs p).getD 0)).zip as))(hw:d.Pairwise fun a b=>HT.lexLt b.1 a.1=false):∃os,Tps H (d.map (·.2)) os/\ic cs c os:=by
 have u:=s.length;have f:∀q∈d,∃(i:Nat)(p:List Int),c[i]?=some p/\as[i]?=some q.2/\q.1=[(wv cs p).getD 0,(i:Int)]:=fun q hq=>by
  obtain⟨i,e⟩:=List.mem_iff_getElem?.mp (hp.mem_iff.mp hq);rw[aF.aW,aF.v_,Ak] at e;cases e1:c[i]? with
  |none=>rw[e1] at e;simp at e
  |some p=>
   cases e2:as[i]? with
   |none=>rw[e1,e2] at e;simp at e
   |some a=>
    rw[e1,e2] at e;simp only[Option.map_some,Option.bind_some,Option.some.injEq] at e;subst e;exact⟨i,p,e1,e2,rfl⟩
 have dec:∀q∈d,∀(i:Nat)(p:List Int),c[i]?=some p->q.1=[(wv cs p).getD 0,(i:Int)]->c.getD (q.1.getD 1 0).toNat []=p:=fun q hq i p e1 e2=>by
  rw[e2];show c.getD i []=p;rw[AL,e1];rfl
 refine⟨d.map fun q=>c.getD (q.1.getD 1 0).toNat [],?_,?_,?_⟩
 ·have:∀l:List (List Int×Addr),(∀q∈l,q∈d)->Tps H (l.map (·.2)) (l.map fun q=>c.getD (q.1.getD 1 0).toNat []):=by
   intro l
   induction l with
   |nil=>intro _;exact .nil
   |cons q l ih=>
    intro h;have hq:=h q AB;obtain⟨i,p,e1,e2,e3⟩:=f q hq;refine .cons ?_ (ih fun x hx=>h x (Ay _ hx));show Tp H q.2 (c.getD (q.1.getD 1 0).toNat []);rw[dec q hq i p e1 e3];obtain⟨w,g1,g2⟩:=s.get e2;rw[e1] at g1;obtain rfl:=Al g1;exact g2
  exact this d fun q hq=>hq
 ·have h1:=hp.map fun q:List Int×Addr=>c.getD (q.1.getD 1 0).toNat []
  refine h1.trans (List.Perm.of_eq ?_);apply List.ext_getElem?;intro i;rw[Ak,aF.aW,aF.v_,Ak];cases e1:c[i]? with
  |none=>rfl
  |some p=>
   have hi:i<as.length:=by rw[u];exact(List.getElem?_eq_some_iff.mp e1).1
   rw[Af hi];show some (c.getD i [])=some p;rw[AL,e1];rfl
 ·rw[AW]
  refine hw.imp_of_mem fun{a b} o hb h=>?_;obtain⟨i,p,e1,e2,e3⟩:=f a o;obtain⟨j,r,g1,g2,g3⟩:=f b hb;rw[dec a o i p e1 e3,dec b hb j r g1 g3];rw[e3,g3,HT.zv] at h;unfold wk;rw[HT.zv]
  by_cases z:(wv cs r).getD 0=(wv cs p).getD 0
  ·rw[if_pos z] at h ⊢
   rw[HT.zv] at h;have v:i<=j:=by
    by_cases y:(j:Int)=(i:Int)
    ·omega
    ·rw[if_neg y] at h
     have:=of_decide_eq_false h;omega
   rcases Nat.lt_or_ge i j with l|l
   ·have hi:=(List.getElem?_eq_some_iff.mp e1)
    have g:=(List.getElem?_eq_some_iff.mp g1);obtain⟨hi,rfl⟩:=hi;obtain⟨g,rfl⟩:=g;exact List.pairwise_iff_getElem.mp hs i j hi g l
   ·have:i=j:=ω
    subst this;rw[e1] at g1;obtain rfl:=Al g1;exact aF.lA _
  ·rw[if_neg z] at h ⊢
   exact h
abbrev eB:Pos:=⟨68,29,68,56⟩
abbrev qO:Str:=(("order_by":Str)++".<locals>.")++"<lambda>"
structure WO(K:Ae)(H:Hp)(l d:Addr)(as:List Addr)(pss:Ξ)(cs:Wd):Prop where
 hl:SqL K H l (as.map V.ref)
 ht:Tps H as pss
 hw:du pss
 few:(canon pss).length<=56
 hd:H d=some (.dT (aS cs))
 nc:(cs.map (·.1)).Nodup
 z:cs.length<=57
def WO.same{H H':Hp}{l d:Addr}{as:List Addr}{pss:Ξ}{cs:Wd}(x:WO K H l d as pss cs)(s:Same H H'):WO K H' l d as pss cs:=⟨s.seq x.hl,s.tps x.ht,x.hw,x.few,s _ _ x.hd,x.nc,x.z⟩
def wH{pss:Ξ}{q r:List Int}(hq:q∈canon pss)(hr:r∈rims q):r∈canon pss:=by
 obtain⟨t,a,hx⟩:=List.mem_flatMap.mp (hF.mp hq);obtain⟨b,hs⟩:=zO.mp hx;obtain⟨h1,k,hk,rfl⟩:=Gc.mp hr;refine hF.mpr (List.mem_flatMap.mpr ⟨t,a,zO.mpr ⟨fun z=>?_,((Gd hk rfl).1).trans hs⟩⟩);have e:=congrArg List.length z;rw[AC,AM,List.length_drop,List.length_nil] at e;omega
def mv{pss:Ξ}(hw:br pss=true):∀o∈canon pss,o.length<=5:=fun o a=>by
 obtain⟨_,b,_,_⟩:=pu hw;obtain⟨q,hq,hx⟩:=List.mem_flatMap.mp (hF.mp a);exact(pd.mp (FY (b q hq) hx)).2.1
def BN(K:Ae)(Pt fO:Addr):Sp:=fun vs H Q E=>∃l d as pss cs,vs=[.ref l,.ref d]/\WO K H l d as pss cs/\Tab H Pt eB qO/\
 ((dy (canon pss) cs/\∀D H' bs os,zH H H'->Tab H' Pt eB qO->H D=none->H' D=some (.lst (bs.map V.ref))->Tps H' bs os->ic cs (canon pss) os->Q (.ref D) H') \/
  (¬dy (canon pss) cs/\∀H',Same H H'->∀x,H' x=none->E (.ref x) (some fO) H'))
def BO:zw ["web","worths","every"] ["web","worths"] (ze jS):=⟨rfl,rfl,rfl,δ,rfl,δ,δ⟩
def H0{f c Pt fO:Addr}{fd:FuncData}(F:Fun K "order_by" "order_by" jS f fd)(B:Bt mg)(bE:fd.code=.ref c)(hC:PySem.W.CodeHd base c Pt)(dH:BM mg base)(mO:mg "NoOrder"=some (.ref fO))(qx:PySem.W.excIn K fO i3 "ValueError.__new__"=true)(Cp:Cl P w K mg base aC "pieces" ["web"] 8 (pF K))(Ca:Cl P w K mg base aC "are_worths" ["every","worths"] 3 (BI K)):FnOk P w K mg base (fm P w) 9 f fd ["web","worths"] (BN K Pt fO):=by
 refine F.ok1c bE BO (fun vs H Q E h=>?_) (fun A outer s H vs Q E hr h=>?_)
 ·obtain⟨l,d,as,pss,cs,rfl,_⟩:=h;rfl
 ·obtain⟨l,d,as,pss,cs,rfl,W,tb,h⟩:=h
  have hu:=ey hr;refine⟨_,zb (zu (i:=2) BO.nd rfl (Or.inl rfl) (zT Cp hr rfl ao (ac (pv 0) ai)))
   (zb (zP (dY (et (zT Ca hr rfl ao (ac (pv 2) (ac (pv 1) ai))))) (zd (Bs (C:=fO) (EX:=E) rfl rfl mO qx (fun aa σ H' s' x I hx O hs S=>Br I hx O hs (fun a e=>nomatch e) S))) zt)
   (zd (zn (Hr (k:=6) (iy:=1) (x:="piece") (y:="worths") (te:=iF (aw 1) (aw 0)) hr rfl B.sorted gj hC rfl dH rfl rfl rfl rfl ⟨rfl,rfl,rfl,rfl,rfl,δ,HW⟩ (fun _ _ _ _ _ _=>rfl)
    (fun s H f ah c'=>fE (ey ((Room.in1 (Room.in1 hr)).deeper _)) (pv 1) (pv 0) (fun _ _=>rfl)) (ac (pv 2) ai))))),?_⟩
  refine⟨_,rfl,l,as,pss,rfl,W.hl,W.ht,W.hw,fun L H1 ks o hL J hk=>?_⟩;have kl:=hk.length;have bf:=W.few;refine⟨_,rfl,_,rfl,L,d,ks,canon pss,cs,rfl,SqL.of J,hk,zR pss,W.few,mv W.hw.1,(fun p hp r T=>wH hp T),o _ _ W.hd,W.nc,W.z,fun b H2 hb g=>⟨_,rfl,?_⟩⟩;rcases h with ⟨v,k⟩|⟨v,k⟩
  ·obtain rfl:b=true:=hb.mpr v
   refine aB ⟨_,rfl,L,ks,(canon pss).map fun p=>(wv cs p).getD 0,.ref d,rfl,SqL.of (g _ _ J),?_,by rw[Ab];omega,ω,rfl,tb.same (o.trans g),fun H3 q j a n U M=>?_,fun D H3 X q Y N u hp hw=>?_⟩
   ·exact HV hk (zR pss)
   ·obtain⟨p,ep,hp⟩:=hk.get U
    rw[Ak,ep] at M;obtain rfl:=Al M;obtain⟨m,hm⟩:=mr (v.1.mem_iff.mpr (An ep));refine⟨_,rfl,_,rfl,d,.int m,rfl,?_,?_,rfl⟩
    ·have:=DGet.t (k:=p.map Sum.inl) (b:=a) (q _ _ (fun _ e=>nomatch e) (g _ _ (o _ _ W.hd))) (by rw[Am];exact q _ _ (fun _ e=>nomatch e) (g _ _ hp))
     rwa [ia,hm] at this
    ·show V.int m=V.int ((wv cs p).getD 0)
     rw[hm];rfl
   ·have t3:Tps H3 ks (canon pss):=zH.tps q (g.tps hk)
    obtain⟨os,to,ho⟩:=HZ (zR pss) ((o9 pss).imp fun h=>iX.mp h) t3 hp hw;refine k D _ (X.map (·.2)) os (((o.trans g).toN.trans q).trans (Same.new u).toN) (N.same (Same.new u)) ((o.trans g).free (zH.free q Y N u)) (by rw[Am];exact za) ((Same.new u).tps to) ho
  ·have G:b=false:=by
    cases b with
    |false=>rfl
    |true=>exact absurd (hb.mp rfl) v
   subst G;exact aT fun x hx=>k H2 (o.trans g) x hx
end
end K63
end
section
namespace K63
open K1
open PySem L2 STb
abbrev ig:Stmt:=top 28
def wI:A5 "max"=some (.builtin "max"):=δ
def fu:A5 "dict"=some (.type "dict"):=δ
abbrev Ag:=List (Int×Int)
def dA(ns:Ag):HO:=dZ (ns.map fun p=>(p.1,V.int p.2))
def av(ns:Ag)(x:Int):Option Int:=(ns.find? fun c=>decide (c.1=x)).map (·.2)
def wJ(ns:Ag)(x:Int):a6 ((ns.map fun p=>(p.1,V.int p.2)).map fun p=>((Sum.inl p.1:Key),p.2)) (Sum.inl x)=(av ns x).map V.int:=by
 unfold a6 av
 induction ns with
 |nil=>rfl
 |cons c ns ih=>
  rw[AE,AE,List.find?_cons,List.find?_cons]
  by_cases e:c.1=x
  ·rw[decide_eq_true (by rw[e]),decide_eq_true e];rfl
  ·rw[decide_eq_false (fun z=>e (Sum.inl.inj z)),decide_eq_false e];exact ih
def p9{ns:Ag}{x:Int}(h:x∈ns.map (·.1)):∃n,av ns x=some n:=by
 obtain⟨c,hc,rfl⟩:=List.mem_map.mp h;unfold av;cases e:ns.find? fun d=>decide (d.1=c.1) with
 |none=>exact absurd (List.find?_eq_none.mp e c hc) (by simp)
 |some d=>exact⟨d.2,rfl⟩
open Classical in
noncomputable def mx(l:List Int):Int:=if h:∃M,M∈l/\∀a∈l,a<=M then h.choose else 0
def BP{l:List Int}{M:Int}(h1:M∈l)(h2:∀a∈l,a<=M):mx l=M:=by
 unfold mx;have h:∃M,M∈l/\∀a∈l,a<=M:=⟨M,h1,h2⟩;rw[dif_pos h];have:=h.choose_spec;exact Int.le_antisymm (h2 _ this.1) (this.2 _ h1)
noncomputable def gA(ns:Ag)(p:List Int):Int:=mx (p.map fun x=>(av ns x).getD 0)
noncomputable def cX(ns:Ag)(a:Ξ):Wd:=a.map fun p=>(p,gA ns p)
def BQ{cs:Wd}{p:List Int}{n:Int}(h:p∉cs.map (·.1)):putK (aS cs) (p.map Sum.inl) (.int n)=aS (cs++[(p,n)]):=by
 rw[xQ]
 ·unfold aS;rw[Av];rfl
 ·rw[ia]
  unfold wv;rw[List.find?_eq_none.mpr fun c hc=>by
   simp only[decide_eq_true_eq];exact fun e=>h (List.mem_map.mpr ⟨c,hc,e⟩)]
  rfl
abbrev eR:TE:=iF (aw 1) (aw 0)
def BR{pss:Ξ}{p:List Int}{x:Int}(hp:p∈canon pss)(hx:x∈p):x∈bT (canon pss):=by
 obtain⟨t,a,b⟩:=List.mem_flatMap.mp (hF.mp hp);have h1:[x]∈canon pss:=hF.mpr (List.mem_flatMap.mpr ⟨t,a,zO.mpr ⟨by simp,List.Sublist.trans (List.singleton_sublist.mpr hx) (zO.mp b).2⟩⟩);exact List.mem_map.mpr ⟨[x],List.mem_filter.mpr ⟨h1,by simp⟩,rfl⟩
section
variable{P:Program}{w:World}{K:Ae}{mg:Str->Option Value}{base:Heap}
def BS{H2:Hp}{a d D:Addr}{p:List Int}{ns:Ag}{Q:VK}(q:Tp H2 a p)(hz:p.length<=5)(hd:H2 d=some (dA ns))(r:∀x∈p,∃n,av ns x=some n)(l:H2 D=none)(k:∀(H3:Hp),Same H2 H3->H3 D=some (.lst ((p.map fun x=>(av ns x).getD 0).map V.int))->Q (.ref D) H3):bW (iA K a) (cg 0) bq eR [none,some (.ref d)] H2 D Q:=by
 refine yh (xs:=p.map V.int) (fun j σ ys H3=>∃(v:Option V),σ=[v,some (.ref d)]/\Same H2 H3/\H3 D=some (.lst ys)/\ys=((p.map fun x=>(av ns x).getD 0).take j).map V.int) ?_ ?_ ?_ ?_
 ·exact⟨none,rfl,Same.new l,za,rfl⟩
 ·rintro j σ ys H3 ⟨v,rfl,b,c,rfl⟩
  exact SqT.of (b.tp q)
 ·rintro j σ ys H3 x hx o hy ⟨v,rfl,b,c,rfl⟩
  rw[Ak] at hx;cases ex:p[j]? with
  |none=>rw[ex] at hx;cases hx
  |some i=>
   rw[ex] at hx;obtain rfl:=Al hx;obtain⟨n,h⟩:=r i (An ex);have f:(p.map V.int).length<=sizeLine:=by rw[Ab];exact zf ω
   have e:(p.map fun x=>(av ns x).getD 0)[j]?=some n:=by rw[Ak,ex];show some ((av ns i).getD 0)=_;rw[h];rfl
   have g:DGet H3 d (.int i) (some (.int n)):=by
    have:=DGet.k (k:=Sum.inl i) (b _ _ hd)
    rwa [wJ,h] at this
   refine bH ⟨_,rfl,_,rfl,d,_,rfl,g,?_⟩;exact bb f o hy c ⟨_,rfl,b.then l,za,by rw[AX e,Av];rfl⟩
 ·rintro σ ys H3 ⟨v,rfl,b,c,rfl⟩
  rw[Ax (by rw[Ab,Ab];omega)] at c;exact k H3 b c
structure WA(K:Ae)(H:Hp)(l d:Addr)(as:List Addr)(pss:Ξ)(ns:Ag):Prop where
 hl:SqL K H l (as.map V.ref)
 ht:Tps H as pss
 hw:du pss
 few:(canon pss).length<=56
 hd:H d=some (dA ns)
 nc:(ns.map (·.1)).Nodup
 z:ns.length<=57
def BU(K:Ae)(fO:Addr):Sp:=fun vs H Q E=>∃l d as pss ns,vs=[.ref l,.ref d]/\WA K H l d as pss ns/\
 (((ns.map (·.1)).Perm (bT (canon pss))/\∀D H',Same H H'->H D=none->H' D=some (.dT (aS (cX ns (canon pss))))->Q (.ref D) H') \/
  (¬(ns.map (·.1)).Perm (bT (canon pss))/\∀H',Same H H'->∀x,H' x=none->E (.ref x) (some fO) H'))
def BV{pss:Ξ}:(bT (canon pss)).Nodup:=by
 unfold bT;refine List.Pairwise.map _ (fun a b(h:a≠[]/\b≠[]/\a.length=1/\b.length=1/\a≠b) e=>?_) (((zR pss).filter _).imp_of_mem fun{a b} f hb h=>?_)
 ·obtain⟨_,_,h1,h2,g⟩:=h
  obtain⟨x,rfl⟩:=List.length_eq_one_iff.mp h1;obtain⟨y,rfl⟩:=List.length_eq_one_iff.mp h2;exact g (by rw[show x=y from e])
 ·have c:=of_decide_eq_true (List.mem_filter.mp f).2
  have d:=of_decide_eq_true (List.mem_filter.mp hb).2;refine⟨?_,?_,c,d,h⟩
  ·intro e;rw[e] at c;cases c
  ·intro e;rw[e] at d;cases d
def p_:zw ["web","ages","every","worths","piece"] ["web","ages"] (ze ig):=⟨rfl,rfl,rfl,δ,rfl,δ,δ⟩
def H_{f fO:Addr}{fd:FuncData}(F:Fun K "worths_by_points" "worths_by_points" ig f fd)(B:Bt mg)(jR:mg "max"=none)(mO:mg "NoOrder"=some (.ref fO))(qx:PySem.W.excIn K fO i3 "ValueError.__new__"=true)(Cp:Cl P w K mg base aC "pieces" ["web"] 8 (pF K))(ow:Cl P w K mg base aC "points" ["web"] 9 (BL K)):FnOk P w K mg base (fm P w) 10 f fd ["web","ages"] (BU K fO):=by
 refine F.ok1 p_ (fun vs H Q E h=>?_) (fun aq A outer s H vs Q E hr h=>?_)
 ·obtain⟨l,d,as,pss,ns,rfl,_⟩:=h;rfl
 ·obtain⟨l,d,as,pss,ns,rfl,W,h⟩:=h
  have hu:=ey hr;refine⟨_,zb (zu (i:=2) p_.nd rfl (Or.inl rfl) (zT Cp hr rfl ao (ac (pv 0) ai)))
   (zb (zP (zk (GQ hr.units) (zq (GP hr.units) rfl B.set l3 (ac (pv 1) ai)) (zq (GO rfl) rfl B.set l3 (ac (zT ow hr rfl ao (ac (pv 0) ai)) ai)) (al _))
    (zd (Bs (C:=fO) (EX:=E) rfl rfl mO qx (fun aa σ H' s' x I hx h0 hs hE=>Br I hx h0 hs (fun a e=>nomatch e) hE))) zt)
   (zb (zu (i:=3) p_.nd rfl (Or.inl rfl) nQ)
   (zb (dF PassesOwn.leaving rfl (zA (pv 2)) (zr (i:=4) p_.nd rfl (Or.inl rfl))
    (zd (gh hu (pv 3) (pv 4) (zi (v4 rfl) rfl jR wI (ac (zy ["web","ages","every","worths","piece"] ["point","ages"] [none,some 1] (k7 (pv 4)) (fun cl C s₀ H₀ ex=>zr (i:=0) (cK ["point","ages"]) rfl (Or.inl rfl)) (fun cl C s₀ H₀ ex=>zS)
     (fun cl C s₀ H₀ ex=>fE hu (pv 1) (pv 0) (fun _ _=>rfl)) (hfr:=b9 (ze ig) δ) (te:=eR)) ai)) rfl)))
   (zd (zn (pv 3)))))),?_⟩
  have bf:=W.few;refine⟨_,rfl,l,as,pss,rfl,W.hl,W.ht,W.hw,fun L H1 ks N hL cF hk=>?_⟩;have kl:=hk.length;refine⟨_,rfl,d,_,rfl,.inl (N _ _ W.hd),by rw[Ab];have:=W.z;omega,fun D1 eD=>?_⟩;have n1:(ns.map fun p=>(p.1,V.int p.2)).map (·.1)=ns.map (·.1):=by rw[Am];rfl
  rw[n1];have g:=Same.new (o:=dO (ns.map (·.1))) eD;have pl:(bT (canon pss)).length<=56:=by unfold bT;rw[Ab];exact AF (List.length_filter_le _ _) bf
  refine⟨_,rfl,l,as,pss,rfl,(N.trans g).seq W.hl,(N.trans g).tps W.ht,W.hw,fun L2 H3 r dc iB=>⟨L2,_,rfl,SqL.of iB,ω,fun D2 bJ=>?_⟩⟩;have y:=Same.new (o:=dO (bT (canon pss))) bJ;refine⟨D1,D2,_,_,rfl,rfl,y _ _ (r _ _ za),za,_,rfl,?_⟩;have hp:=BH W.nc (BV (pss:=pss));have bd:((decide ((dd (ns.map fun c:Int×Int=>c.1)).length=(dd (bT (canon pss))).length)&&decide (∀k∈ns.map fun c:Int×Int=>c.1,k∈bT (canon pss)))=true)↔(ns.map fun c:Int×Int=>c.1).Perm (bT (canon pss)):=by
   rw[AN,decide_eq_true_eq,decide_eq_true_eq,hp];refine and_congr_right fun _=>⟨fun z x hx=>(STb.iZ _ x).mpr (z x ((STb.iZ _ x).mp hx)),fun z x hx=>(STb.iZ _ x).mp (z x ((STb.iZ _ x).mpr hx))⟩
  have S:=((N.trans g).trans r).trans y;rcases h with ⟨U,k⟩|⟨U,k⟩
  ·rw[bd.mpr U]
   refine aB fun u O=>?_;have s5:=Same.new (o:=HO.dT []) O;have hn:∀p∈canon pss,∀x∈p,∃n,av ns x=some n:=fun p hp x hx=>p9 (U.mem_iff.mpr (BR hp hx));refine⟨_,rfl,L,rfl,⟨_,(s5.seq (y.seq (r.seq (g.seq (SqL.of cF)))))⟩,gO (K:=K) (a:=L) (xs:=ks.map V.ref) (fun i σ H2=>∃(v:Option V),σ=[some (.ref l),some (.ref d),some (.ref L),some (.ref u),v]/\Same H1 H2/\Same H H2/\H2 u=some (.dT (aS (cX ns ((canon pss).take i)))))
    ⟨none,rfl,((g.trans r).trans y).trans s5,S.trans s5,za⟩ (fun i σ H2 _ ⟨_,_,b,_⟩=>b.seq (SqL.of cF)) ?_ ?_⟩
   ·rintro i x σ H2 hx ⟨v,rfl,b,X,Y⟩
    obtain⟨a,ea,rfl⟩:=zV hx;obtain⟨p,ep,hp⟩:=hk.get ea;have hm:=An ep;have hi:=(List.getElem?_eq_some_iff.mp ep).1;refine⟨_,rfl,a,rfl,⟨_,SqT.of (b.tp hp)⟩,fun D hD=>zF (BS (b.tp hp) (mv W.hw.1 p hm) (X _ _ W.hd) (hn p hm) hD fun H4 T bC=>⟨D,_,rfl,SqL.of bC,?_,fun M hM fY=>?_⟩)⟩
    ·intro z
     have:p=[]:=List.map_eq_nil_iff.mp z;subst this;obtain⟨t,_,i8⟩:=List.mem_flatMap.mp (hF.mp hm);exact(zO.mp i8).1 rfl
    ·have eM:gA ns p=M:=BP hM fY
     have G:H1 u=none:=((g.trans r).trans y).free O;have J:p∉(cX ns ((canon pss).take i)).map (·.1):=fun z=>by
      unfold cX at z;rw[Am] at z;obtain⟨q,hq,e⟩:=List.mem_map.mp z;have e':q=p:=e;subst e';obtain⟨j,hj,e2⟩:=List.mem_take_iff_getElem.mp hq;have e3:=(List.getElem?_eq_some_iff.mp ep).2;have:=(List.getElem_inj (zR pss)).mp (e2.trans e3.symm);omega
     refine⟨_,rfl,_,rfl,u,_,rfl,DPut.t (k:=p.map Sum.inl) (T _ _ Y) (by rw[Am];exact T.tp (b.tp hp)) (by unfold aS cX;rw[Ab,Ab,AM];exact a7 ω),?_⟩;rw[BQ J];refine⟨_,rfl,(b.trans T).then G,(X.trans T).then (S.free O),?_⟩;rw[za,AX ep];unfold cX;rw[Av,<-eM]
     rfl
   ·rintro σ H2 ⟨v,rfl,b,X,Y⟩
    rw[Ax (by rw[Ab];omega)] at Y;exact⟨_,rfl,k u H2 X (S.free O) Y⟩
  ·rw[(Bool.not_eq_true _).mp fun z=>U (bd.mp z)]
   exact aT fun x hx=>k _ S x hx
end
end K63
end
section
namespace K63
open K1
open PySem L2 STb
def hT(ps:List Int):Int:=reduceHash (Builtin.Tuple.tupleHashOf (ps.map hashInt))
def qc(m:Nat):List Int->Nat->Bool
 |[],_=>true
 |h::t,acc=>(Nat.beq (Nat.land 1 (Nat.shiftRight acc (h%(m:Int)).toNat)) 0)&&qc m t (Nat.lor acc (Nat.shiftLeft 1 (h%(m:Int)).toNat))
def Ia(a b:Nat):Nat.beq (Nat.land 1 (Nat.shiftRight a b)) 0=!a.testBit b:=by
 unfold Nat.testBit;show Nat.beq (1 &&& (a >>> b)) 0=!(1 &&& (a >>> b) != 0);cases h:(1 &&& (a >>> b)) with
 |zero=>rfl
 |succ n=>rfl
def BW(m:Nat):∀(l:List Int)(acc:Nat),qc m l acc=true->(∀h∈l,acc.testBit (h%(m:Int)).toNat=false)/\l.Nodup
 |[],_,_=>⟨(fun h x=>nomatch x),List.nodup_nil⟩
 |h::t,acc,e=>by
  unfold qc at e;rw[AN,Ia] at e;obtain⟨e1,e2⟩:=e;obtain⟨i1,i2⟩:=BW m t _ e2;have a:acc.testBit (h%(m:Int)).toNat=false:=by simpa using e1
  have key:∀x∈t,acc.testBit (x%(m:Int)).toNat=false/\(x%(m:Int)).toNat≠(h%(m:Int)).toNat:=fun x hx=>by
   have:=i1 x hx;rw[show Nat.lor acc (Nat.shiftLeft 1 (h%(m:Int)).toNat)=acc||| (1 <<< (h%(m:Int)).toNat) from rfl,Nat.testBit_or,Bool.or_eq_false_iff,Nat.one_shiftLeft,Nat.testBit_two_pow] at this;exact⟨this.1,fun z=>by have:=this.2;simp[z] at this⟩
  refine⟨fun x hx=>?_,List.nodup_cons.mpr ⟨fun hx=>(key h hx).2 rfl,i2⟩⟩;rcases List.mem_cons.mp hx with rfl|hx
  ·exact a
  ·exact(key x hx).1
def up:Nat->Int->Ξ
 |0,_=>[[]]
 |m+1,k=>up m (k+1)++(up m (k+1)).map (k::·)
def qd:∀(m:Nat)(k:Int)(e:List Int),e.Pairwise (·<·)->(∀x∈e,k<=x/\x<k+m)->e∈up m k
 |0,k,e,_,h=>by
  cases e with
  |nil=>exact List.mem_singleton.mpr rfl
  |cons x r=>have:=h x AB;omega
 |m+1,k,e,hp,h=>by
  unfold up;rw[List.mem_append];cases e with
  |nil=>exact .inl (qd m (k+1) [] .nil (fun x hx=>nomatch hx))
  |cons x r=>
   obtain⟨h1,h2⟩:=List.pairwise_cons.mp hp
   by_cases hx:x=k
   ·subst hx
    exact .inr (List.mem_map.mpr ⟨r,qd m (x+1) r h2 (fun y hy=>by have:=h1 y hy;have:=h y (Ay _ hy);omega),rfl⟩)
   ·refine .inl (qd m (k+1) _ hp fun y hy=>?_)
    have a:=h x AB;rcases List.mem_cons.mp hy with rfl|hy'
    ·omega
    ·have:=h1 y hy';have:=h y (Ay _ hy');omega
def i4:Ξ:=(up 8 0).filter fun e=>Nat.ble e.length 5
def mw:Ξ:=[[99]]
def fU(f g:Int):Ξ:=i4.map (cn f g)++mw
def wK:List Nat:=[3508,2875,2637,3018,2995,2629,2724,3329,2756,3060,2494,2864,2446,3181,3868,3309,3064,3474,3723,2552,3628,3436,3303,3187,3606,2805,3263,2928,2667,3442,3709,2994,3281,2210,3423,3180]
def BX(i:Nat):Bool:=qc (wK.getD i 1) ((fU ((i / 3:Nat):Int) ((i%3+1:Nat):Int)).map hT) 0
def Ib:∀i,i<36->BX i=true:=δ
def BY{b c:Type}{f:b->c}:∀{l:List b},(l.map f).Nodup->∀x∈l,∀y∈l,f x=f y->x=y
 |[],_,_,hx,_,_,_=>absurd hx (by simp)
 |a::l,h,x,hx,y,hy,e=>by
  rw[AE,List.nodup_cons] at h;rcases List.mem_cons.mp hx with q|hx'
  ·rcases List.mem_cons.mp hy with r|hy'
   ·rw[q,r]
   ·exact absurd (List.mem_map.mpr ⟨y,hy',by rw[<-e,q]⟩) h.1
  ·rcases List.mem_cons.mp hy with r|hy'
   ·exact absurd (List.mem_map.mpr ⟨x,hx',by rw[e,r]⟩) h.1
   ·exact BY h.2 x hx' y hy' e
def BZ{P:Program}{w:World}(ps:List Int):Aq (intKind P w) ps=hT ps:=rfl
def Nm(f g:Int):Prop:=0<=f/\f<12/\1<=g/\g<=3
def Ie{f g:Int}(h:Nm f g){x y:List Int}(hx:x∈fU f g)(hy:y∈fU f g)(e:hT x=hT y):x=y:=by
 obtain⟨a,f1,b,g1⟩:=h;obtain⟨i,rfl⟩:=Int.eq_ofNat_of_zero_le a;obtain⟨j,c⟩:=Int.eq_ofNat_of_zero_le (show 0<=g-1 from ω);obtain rfl:g=((j+1:Nat):Int):=ω
 have h:=Ib (3*i+j) ω;unfold BX at h;rw[show(3*i+j) / 3=i from ω,show(3*i+j)%3+1=j+1 from ω] at h;exact BY (BW _ _ _ h).2 x hx y hy e
def Rz(e:List Int):Prop:=e.Pairwise (·<·)/\(∀x∈e,0<=x/\x<=7)/\e.length<=5
def Rz.sub{e d:List Int}(h:Rz e)(s:d.Sublist e):Rz d:=⟨h.1.sublist s,fun x hx=>h.2.1 x (s.subset hx),AF s.length_le h.2.2⟩
def InK(f g:Int)(ps:List Int):Prop:=(∃e,Rz e/\ps=cn f g e)\/ps∈mw
def Ig{e:List Int}(h:Rz e):e∈i4:=List.mem_filter.mpr ⟨qd 8 0 e h.1 (fun x hx=>by have:=h.2.1 x hx;omega),by rw[Nat.ble_eq];exact h.2.2⟩
def B0{f g:Int}{ps:List Int}(h:InK f g ps):ps∈fU f g:=by
 unfold fU;rw[List.mem_append];rcases h with ⟨e,he,rfl⟩|h
 ·exact .inl (List.mem_map.mpr ⟨e,Ig he,rfl⟩)
 ·exact .inr h
def B1{P:Program}{w:World}{f g:Int}(h:Nm f g){pss:Ξ}(d:pss.Nodup)(hk:∀p∈pss,InK f g p):(pss.map (Aq (intKind P w))).Nodup:=by
 unfold List.Nodup at d ⊢;rw[AW];refine d.imp_of_mem fun{a b} i hb c e=>c ?_;rw[BZ,BZ] at e;exact Ie h (B0 (hk a i)) (B0 (hk b hb)) e
def Ih{q:Ξ}(h:Drawn q):∃f g,Nm f g/\∀e∈canon q,∃a,Rz a/\e=cn f g a:=by
 obtain⟨b,first,d,hb,i,h1,j,ld,hp⟩:=h;obtain⟨_,_,l,_⟩:=zc hb;refine⟨first,d,⟨i,h1,j,ld⟩,fun e he=>?_⟩;obtain⟨v,o,hx⟩:=List.mem_flatMap.mp (hF.mp he);obtain⟨r,hr,rfl⟩:=List.mem_map.mp (hp.mem_iff.mp o);obtain⟨_,c⟩:=zO.mp hx;unfold cn at c;obtain⟨y,hy,rfl⟩:=List.sublist_map_iff.mp c;obtain⟨_,p,s,u⟩:=l r hr;exact⟨y,⟨((me r).mp s).sublist hy,fun x hx=>u x (hy.subset hx),AF hy.length_le p⟩,rfl⟩
end K63
end
section
namespace DPo
open PySem PySem.Spec PyProof.Rows
def qg{a b:Type}(f:a->b):∀(l:List a)(j:Nat),(l.map f).eraseIdx j=(l.eraseIdx j).map f
 |[],j=>by simp
 |x::l,0=>by simp
 |x::l,j+1=>by simp[qg f l j]
section
variable{prog:Program}{w:World}{K:Type}[DecidableEq K]{knd:HeapKind prog w K}{A:Around}{E:Ω}{s:Shared}
def takeOut{d a:Addr}{xs:List (K×Addr×Value)}{k:K}{Q:Option DictEntry->Shared->Prop}(hu:knd.room A)(q:knd.is s.heap k a)(hm:s.heap.DictOfH knd d xs)(hsz:xs.length<=sizeLine)(c:k∈xs.map (·.1))(h:∀(j:Nat)(p:Addr×Value) h',xs[j]?=some (k,p)->h'.DictOfH knd d (xs.eraseIdx j)->AR d s.heap h'->Q (some (entryOfKey knd (k,p))) {s with heap:=h',toks:=s.toks+knd.draws k}):wpAny (model prog w) A (Builtin.Dict.takeOut d (.ref a)) Q E s:=by
 obtain⟨o,es,ep,b,hc,hd,he,g,i⟩:=hm;have u:es.size=xs.length:=size_of_entries he;unfold Builtin.Dict.takeOut;refine AI ?_;refine Aa (knd.pyHash hu q ?_);refine Aa (wpAny_dictFind_heap (s:={s with toks:=s.toks+knd.draws k}) hu q b hd he g i ?_ ?_)
 ·intro r
  obtain⟨x,hx,rfl⟩:=List.mem_map.mp c;obtain⟨j,e⟩:=List.mem_iff_getElem?.mp hx;exact absurd e (r j x.2)
 ·intro j p f
  refine Aa (AH (s:={s with toks:=s.toks+knd.draws k}) b hd ?_);rw[entry_at he j,f];show wpAny _ _ (updateDictKeys d _ _ >>= fun _=>pure (some (entryOfKey knd (k,p)))) _ _ _;refine Aa (wpAny_updateDictKeys (hz:=by omega) (s:={s with toks:=s.toks+knd.draws k}) b hd (Ac (h j p _ f ⟨_,_,ep+1,Heap.get?_update_self _ b (Obj.isFreed_of_dict (Obj.data_mapDictKeys hd _)),
   hc.mapDictKeys _,Obj.data_mapDictKeys hd _,?_,?_,?_⟩ (AS ..))))
  ·have:(es.eraseIdxIfInBounds j).toList=es.toList.eraseIdx j:=by obtain⟨l⟩:=es;simp
   rw[this,he];exact qg _ _ _
  ·intro x hx
   exact knd.keeps (g x (List.mem_of_mem_eraseIdx hx)) b hd (AS ..)
  ·rw[<-qg]
   exact i.sublist (List.eraseIdx_sublist _ _)
end
end DPo
namespace L2
open PySem PySem.Spec PyProof.Rows
def Ii(td ty:TE):TE:=fun σ H Q=>td σ H fun x H1=>∃a,x=.ref a/\IsD H1 a/\ty σ H1 fun y H2=>∃kvs k b,H2 a=some (.dT kvs)/\y=.ref b/\H2 b=some (.tup (k.map kV))/\k∈kvs.map (·.1)/\∀(j:Nat) v,kvs[j]?=some (k,v)->Q v (upd H2 a (.dT (kvs.eraseIdx j)))
section
variable{X:Cx}{o e:Expr}{aU aA:Pos}{td ty:TE}
def wL{a b:Type}{R:a->b->Prop}:∀{l:List a}{m:List b},Paired R l m->∀(j:Nat) y,m[j]?=some y->∃x,l[j]?=some x/\R x y
 |_,_,.nil,j,y,h=>by simp at h
 |_,_,.cons r t,0,y,h=>by simp at h;subst h;exact⟨_,rfl,r⟩
 |_,_,.cons r t,j+1,y,h=>by simpa using wL t j y (by simpa using h)
def B2{a b:Type}{R:a->b->Prop}:∀{l:List a}{m:List b},Paired R l m->∀(j:Nat),Paired R (l.eraseIdx j) (m.eraseIdx j)
 |_,_,.nil,j=>by simpa using Paired.nil
 |_,_,.cons r t,0=>by simpa using t
 |_,_,.cons r t,j+1=>by simpa using Paired.cons r (B2 t j)
def Ij(hu:X.A.units+64<cLine)(ho:PE X o td)(he:PE X e ty)(m:M1 X o "pop" aU e aA):PE X (.Call (.Attribute o "pop" aU) [e] [] aA) (Ii td ty):=by
 intro aa s σ H Q I h;refine wpAny_Call_method m.base m.few m.line PySem.F.plainAttrs_dict PySem.F.slot_dict_pop PySem.F.type_dict_pop (aJ (ho aa s σ H _ I h) fun u G ⟨x,H1,E,J,a,ex,d,L⟩=>?_);subst ex;obtain rfl:u=Value.ref a:=J;obtain⟨U,W,_⟩:=xU E d;refine⟨U,W,?_⟩;rw[m.trees];refine Calls.callWith_builtin rfl (Calls.evalArgs_plain (Calls.spliced_cons (aJ (he aa G σ H1 _ E L) fun iv M ⟨y,H2,I2,N,kvs,k,b,i,O,P,l,S⟩=>Calls.spliced_nil ?_)));subst O;cases N;obtain⟨z,hd,xs,f,dd⟩:=xT I2.hok i;have hz:xs.length<=sizeLine:=by rw[<-A7 f];exact z
 have D:k∈xs.map (·.1):=by
  obtain⟨kv,hkv,rfl⟩:=List.mem_map.mp l;obtain⟨j,e⟩:=List.mem_iff_getElem?.mp hkv;have g:j<xs.length:=by rw[<-A7 f];exact(List.getElem?_eq_some_iff.mp e).1
  have e2:xs[j]?=some xs[j]:=Af g;obtain⟨oY,e3,r⟩:=wL f j _ e2;rw[e] at e3;obtain rfl:=Al e3;exact List.mem_map.mpr ⟨xs[j],A1 g,r.1.symm⟩
 refine A0 PySem.F.slot_dict_pop dd.typeIs PySem.F.entry_dict_pop ?_ (PySem.F.args_dict_pop_2 _ _);unfold Builtin.«dict.pop»;refine Aa ?_;unfold Builtin.Dict.keyAndDefault;refine Aa (wpAny_notOrdered_dict dd.typeIs ?_);show wpAny _ _ (pure (a,Value.ref b,none)) _ _ M;refine Ac ?_;dsimp only;obtain⟨oo,es,ep,Y,o2,o3,o4,o5,o6⟩:=id dd;have v:es.isEmpty=false:=by
  have hs:=size_of_entries o4;obtain⟨x,hx,_⟩:=List.mem_map.mp D;have:0<xs.length:=List.length_pos_of_mem hx;rw[Array.isEmpty_eq_false_iff];intro z2;rw[z2] at hs;simp at hs;omega
 rw[if_neg (show ¬(keyPart (Value.ref b)).isSome=true from Au)];refine Aa (AH Y o3 ?_);refine Aa (Ac ?_);rw[v];simp only[Aj,if_false];refine Aa (DPo.takeOut (knd:=tupleKind (zo X.prog X.w)) (tupleKind_room_in1 ω) (j_ I2.hok P) dd hz D fun j p h' g T hs=>?_);dsimp only;simp only[Option.isNone_some,Aj,if_false];refine Aa (wpAny_letGo (Ac ⟨_,rfl,?_⟩));obtain⟨kv,e1,r⟩:=wL f j _ g;obtain⟨k0,C⟩:=kv;obtain rfl:k0=k:=r.1;obtain⟨q,bK,a_,hq,g2,g3,g4,_,g5⟩:=T;have mG:∀b xs,H2 b=some (.tup xs)->upd H2 a (.dT (kvs.eraseIdx j)) b=some (.tup xs):=fun c xs e=>by
  rw[zh (fun z=>by rw[z,i] at e;cases e)];exact e
 have new:zC X.prog X.w (upd H2 a (.dT (kvs.eraseIdx j))) h' a (.dT (kvs.eraseIdx j)):=⟨AF (by rw[List.length_eraseIdx];split<;>omega) z,hd,_,KT.keeps (B2 f j) mG,q,bK,a_,hq,g2,g3,g4,g5⟩;exact⟨C,_,ll I2 (by rw[i];exact True.intro) hs ⟨q,hq⟩ new,r.2.2,S j C e1⟩
end
end L2
end
section
namespace aF
open PySem PyProof.Rows PySem.W
section
variable{prog:Program}{w:World}{A:Around}{E:Ω}{s:Shared}{good:Heap->Prop}{us vs:List Value}{ls:Ξ}
def IsTp(h:Heap)(u:Value)(l:List Int):Prop:=∃(a:Addr)(b:List Value),u=.ref a/\IsTup h a b.toArray/\IntsAre b l/\l≠[]
def IsTp.inj{h:Heap}{u:Value}{l m:List Int}(h1:IsTp h u l)(h2:IsTp h u m):l=m:=by
 obtain⟨a,b,rfl,c,i1,_⟩:=h1;obtain⟨f,its',e,d,i2,_⟩:=h2;cases e;have e2:=aF.IsTup.inj c d;have e3:b=its':=by simpa using e2
 subst e3;exact IntsAre.inj i1 i2
def Il{fin:Bool}{Q:Bool->Shared->Prop}{c its':List Value}{l m:List Int}{i:Nat}(h1:IntsAre c l)(h2:IntsAre its' m)(hf:fin=decide (l.length<m.length))(hq:Q (HT.lexLt l m) s):KatLex prog w A true fin Q (c.zip its') i s:=by
 induction h1 generalizing its' m i with
 |nil=>
  cases h2 with
  |nil=>rw[hf];exact kat_nil hq
  |cons n t h=>rw[hf];exact kat_nil hq
 |cons n t h ih=>
  cases h2 with
  |nil=>rw[hf];exact kat_nil hq
  |cons n' t' h'=>
   rw[HT.zv] at hq;rw[List.zip_cons_cons];refine kat_cons (A9 (SeqAt.EqAt.int_int n t n' t' prog w (fun _ _=>False) _ ⟨rfl,rfl⟩:wpAny (model prog w) A (eqBool (.int n t) (.int n' t')) (fun e s'=>e=(n==n')/\s'=s) (fun _ _=>False) s) (fun e1 d he=>?_) fun _ _ z=>z);obtain⟨rfl,rfl⟩:=he
   by_cases a:n=n'
   ·have b:(n==n')=true:=by simpa using a
    rw[b];rw[if_pos a] at hq;exact kat_yes (ih h' (by rw[hf,Aw,Aw];congr 1;rw[Nat.add_lt_add_iff_right]) hq)
   ·have b:(n==n')=false:=by simpa using a
    rw[b];rw[if_neg a] at hq;refine kat_no ?_;cases hi:(true&&i==0) with
    |true=>exact oneLt_int hq
    |false=>exact kat_one _ _ (lt_int hq)
def Im{x y:Value}{l m:List Int}{Q:Bool->Shared->Prop}(h1:IsTp s.heap x l)(h2:IsTp s.heap y m)(hq:Q (HT.lexLt l m) s):wpAny (model prog w) A (keyLt' (tuples' true) x y) Q E s:=by
 obtain⟨a,b,rfl,⟨o,e,hc,k,d⟩,i1,_⟩:=h1;obtain⟨c,its',rfl,⟨o',e',f,g,d'⟩,i2,_⟩:=h2;refine kat_lt e d e' d' ?_;exact Il (by simpa using i1) (by simpa using i2) (by rw[Ai,Ai,i1.length,i2.length]) hq
def B3{h:Heap}:∀{us:List Value}{ls:Ξ},us.length=ls.length->(∀(i:Nat) u l,us[i]?=some u->ls[i]?=some l->IsTp h u l)->∃fs,KatTups h us fs/\fs.length=us.length/\∀f∈fs,∃n t,f=Value.int n t
 |[],[],_,_=>⟨[],.nil,rfl,fun f hf=>nomatch hf⟩
 |u::us,l::ls,hl,hp=>by
  obtain⟨fs,c,g,j⟩:=B3 (us:=us) (ls:=ls) (by simpa using hl) fun i u l h1 h2=>hp (i+1) u l (by simpa using h1) (by simpa using h2);obtain⟨a,p,rfl,⟨o,e,hc,k,d⟩,i1,b⟩:=hp 0 u l rfl rfl;cases i1 with
  |nil=>exact absurd rfl b
  |cons n t r=>
   refine⟨.int n t::fs,.cons e hc d rfl c,by simp[g],fun f hf=>?_⟩;rcases List.mem_cons.mp hf with rfl|hf
   ·exact⟨n,t,rfl⟩
   ·exact j f hf
 |[],_::_,h,_=>by simp at h
 |_::_,[],h,_=>by simp at h
def Io(e:us.length=ls.length)(p:∃h,good h)(hp:∀h,good h->∀(i:Nat) u l,us[i]?=some u->ls[i]?=some l->IsTp h u l):By prog w A good us ls:=by
 refine⟨e,fun i j u l m h1 h2 b c=>?_,fun h2=>⟨tuples' true,fun s Q E a hq=>?_,fun i j u v l m h1 h2 b c s Q E a hq=>?_⟩⟩
 ·obtain⟨h,d⟩:=p
  exact(hp h d i u l h1 b).inj (hp h d j u m h2 c)
 ·obtain⟨fs,g,q,o⟩:=B3 e (hp _ a)
  refine kat_kind (T:=.type "int") g ω (fun f hf=>?_) ξ hq;obtain⟨n,t,rfl⟩:=o f hf;exact Looks.of_pure rfl
 ·exact Im (hp _ a i u l h1 b) (hp _ a j v m h2 c) hq
def IsTr(h:Heap)(u:Value)(l:List Int):Prop:=∃(a b:Addr)(n n2:Int)(t d:Tok)(c:List Value)(ps:List Int),u=.ref a/\l=n::n2::ps/\IsTup h a #[.int n t,.int n2 d,.ref b]/\IsTup h b c.toArray/\IntsAre c ps
def IsTr.inj{h:Heap}{u:Value}{l m:List Int}(h1:IsTr h u l)(h2:IsTr h u m):l=m:=by
 obtain⟨a,b,n,n2,t,o,c,ps,rfl,rfl,d,f,i1⟩:=h1;obtain⟨p,q,r,s,t',v,its',w,e,rfl,g,i,j⟩:=h2;cases e;have:=aF.IsTup.inj d g;cases this;have e2:=aF.IsTup.inj f i;have e3:c=its':=by simpa using e2
 subst e3;rw[IntsAre.inj i1 j]
def Ip{x y:Value}{l m:List Int}{Q:Bool->Shared->Prop}(h1:IsTr s.heap x l)(h2:IsTr s.heap y m)(hu:A.units<cLine)(hq:Q (HT.lexLt l m) s):wpAny (model prog w) A (keyLt' (tuples' true) x y) Q E s:=by
 obtain⟨a,b,n,n2,t,r,S,ps,rfl,rfl,O,H,i1⟩:=h1;obtain⟨T,I,i,j,t',u,its',J,rfl,rfl,P,L,M⟩:=h2;obtain⟨o,e,hc,k,d⟩:=id O;obtain⟨o',e',U,W,d'⟩:=id P;refine kat_lt e d e' d' ?_;show KatLex prog w A true (decide (3<3)) Q [(.int n t,.int i t'),(.int n2 r,.int j u),(.ref b,.ref I)] 0 s;rw[HT.zv] at hq;refine kat_cons (A9 (SeqAt.EqAt.int_int n t i t' prog w (fun _ _=>False) _ ⟨rfl,rfl⟩:wpAny (model prog w) A (eqBool (.int n t) (.int i t')) (fun e s'=>e=(n==i)/\s'=s) (fun _ _=>False) s) (fun e1 C he=>?_) fun _ _ z=>z);obtain⟨rfl,rfl⟩:=he
 by_cases v:n=i
 ·have F:(n==i)=true:=by simpa using v
  rw[F];rw[if_pos v,HT.zv] at hq;refine kat_yes (kat_cons (A9 (SeqAt.EqAt.int_int n2 r j u prog w (fun _ _=>False) _ ⟨rfl,rfl⟩:wpAny (model prog w) A (eqBool (.int n2 r) (.int j u)) (fun e s'=>e=(n2==j)/\s'=C) (fun _ _=>False) C) (fun e2 q he=>?_) fun _ _ z=>z));obtain⟨rfl,rfl⟩:=he
  by_cases g:n2=j
  ·have G:(n2==j)=true:=by simpa using g
   rw[G];rw[if_pos g] at hq;refine kat_yes (kat_cons ?_);have N:∀{c:Addr}{cs:List Value}{p:List Int},IsTup q.heap c cs.toArray->IntsAre cs p->AJ (L2.zo prog w) q.heap (p.map Sum.inl) c:=fun{c cs p} hc hi=>by
    obtain⟨o,e,D,k,d⟩:=hc;refine⟨o,cs.toArray,k,e,D,d,?_⟩;have:∀{cs:List Value}{p:List Int},IntsAre cs p->ItemsAre (L2.zo prog w) (p.map Sum.inl) cs:=by
     intro cs p hi
     induction hi with
     |nil=>exact .nil
     |cons n t h ih=>exact .cons (L2.m_ prog w n t) ih
    simpa using this hi
   refine wpAny_eqBool_tuple (knd:=L2.zo prog w) hu (N H i1) (N L M) ?_
   by_cases ep:ps=J
   ·subst ep
    rw[decide_eq_true rfl];rw[lA] at hq;exact kat_yes (kat_nil hq)
   ·have:¬(ps.map Sum.inl:List L2.Key)=J.map Sum.inl:=fun z=>ep (List.map_inj_right (f:=(Sum.inl:Int->L2.Key)) (fun x y h=>Sum.inl.inj h)|>.mp z)
    rw[decide_eq_false this];refine kat_no ?_;show wpAny (model prog w) A (oneLt' false (.ref b) (.ref I)) Q (fun _ _=>False) q;exact kat_one _ _ (HT.xC H L (by simpa using i1) (by simpa using M) hu hq)
  ·have G:(n2==j)=false:=by simpa using g
   rw[G];rw[if_neg g] at hq;refine kat_no ?_;show wpAny (model prog w) A (oneLt' false (.int n2 r) (.int j u)) Q (fun _ _=>False) q;exact kat_one _ _ (lt_int hq)
 ·have F:(n==i)=false:=by simpa using v
  rw[F];rw[if_neg v] at hq;refine kat_no ?_;show wpAny (model prog w) A (oneLt' true (.int n t) (.int i t')) Q (fun _ _=>False) C;exact oneLt_int hq
def B4{h:Heap}:∀{us:List Value}{ls:Ξ},us.length=ls.length->(∀(i:Nat) u l,us[i]?=some u->ls[i]?=some l->IsTr h u l)->∃fs,KatTups h us fs/\fs.length=us.length/\∀f∈fs,∃n t,f=Value.int n t
 |[],[],_,_=>⟨[],.nil,rfl,fun f hf=>nomatch hf⟩
 |u::us,l::ls,hl,hp=>by
  obtain⟨fs,c,g,j⟩:=B4 (us:=us) (ls:=ls) (by simpa using hl) fun i u l h1 h2=>hp (i+1) u l (by simpa using h1) (by simpa using h2);obtain⟨a,b,n,n2,t,p,q,ps,rfl,rfl,⟨o,e,hc,k,d⟩,r,i1⟩:=hp 0 u l rfl rfl;refine⟨.int n t::fs,.cons e hc d rfl c,by simp[g],fun f hf=>?_⟩;rcases List.mem_cons.mp hf with rfl|hf
  ·exact⟨n,t,rfl⟩
  ·exact j f hf
 |[],_::_,h,_=>by simp at h
 |_::_,[],h,_=>by simp at h
def Iq(e:us.length=ls.length)(hu:A.units<cLine)(p:∃h,good h)(hp:∀h,good h->∀(i:Nat) u l,us[i]?=some u->ls[i]?=some l->IsTr h u l):By prog w A good us ls:=by
 refine⟨e,fun i j u l m h1 h2 b c=>?_,fun h2=>⟨tuples' true,fun s Q E a hq=>?_,fun i j u v l m h1 h2 b c s Q E a hq=>?_⟩⟩
 ·obtain⟨h,d⟩:=p
  exact(hp h d i u l h1 b).inj (hp h d j u m h2 c)
 ·obtain⟨fs,g,q,o⟩:=B4 e (hp _ a)
  refine kat_kind (T:=.type "int") g ω (fun f hf=>?_) ξ hq;obtain⟨n,t,rfl⟩:=o f hf;exact Looks.of_pure rfl
 ·exact Ip (hp _ a i u l h1 b) (hp _ a j v m h2 c) hu hq
end
end aF
namespace L2
open PySem PySem.Spec PyProof.Rows
section
variable{X:Cx}{aa:Ψ}{σ:St}{H:Hp}{s:Shared}
def B5(hu:X.A.units+64<cLine){At:Hp->Addr->List Int->Prop}{Is:Heap->Value->List Int->Prop}(J:∀aa σ H s,Inv X aa σ H s->∀p l,At H p l->Is s.heap (.ref p) l)(L:∀(h h':Heap) u l,(∀b o,h.get? b=some o->h'.get? b=some o)->Is h u l->Is h' u l)(M:∀(A:Around)(good:Heap->Prop)(us:List Value)(ls:Ξ),us.length=ls.length->A.units<cLine->(∃h,good h)->(∀h,good h->∀(i:Nat) u l,us[i]?=some u->ls[i]?=some l->Is h u l)->aF.By X.prog X.w A good us ls):bU X (.builtin "sorted") (fun xs H Q=>∃(l:Addr)(as:List Addr)(ls:Ξ),xs=[.ref l]/\SqL X.K H l (as.map V.ref)/\Paired (At H) as ls/\ls.length<64/\
  ∀(D:Addr)(j:List (List Int×Addr)),j.Perm (ls.zip as)->j.Pairwise (fun a b=>HT.lexLt b.1 a.1=false)->H D=none->Q (.ref D) (upd H D (.lst (j.map fun q=>V.ref q.2)))):=by
 intro aa s σ H xs us Q I r h;obtain⟨l,as,ls,rfl,hq,hp,z,q⟩:=h;obtain⟨u,rfl,C⟩:=vals1 r;cases C;obtain⟨N,v,E,hz⟩:=I.list hq;have c:=v.length;obtain rfl:=aD v;rw[Ab] at c hz;have F:=A7 hp;have G:∀h:Heap,(∀b o,s.heap.get? b=some o->h.get? b=some o)->∀(i:Nat) u l,(as.map Value.ref)[i]?=some u->ls[i]?=some l->Is h u l:=fun h hk i u l h1 h2=>by
  rw[Ak] at h1;cases e:as[i]? with
  |none=>rw[e] at h1;simp at h1
  |some a=>
   rw[e] at h1;obtain rfl:=Al h1;exact L _ _ _ _ hk (J _ _ _ _ I _ _ (jB hp i a l e h2))
 refine aF.sH (ls:=ls) (good:=fun h=>∀b o,s.heap.get? b=some o->h.get? b=some o) E.isList (M _ _ _ _ (by rw[Ab];exact F) (tT hu) ⟨s.heap,fun _ _ e=>e⟩ G) (fun h' hk=>hk) (by rw[Ab];exact hz) (by rw[Ab];omega) fun d f=>?_;obtain⟨ps,x,f,hs⟩:=f;have all:∀p∈ps,p.2=Value.ref (addrOf p.2):=fun p g=>by
  have:=(List.of_mem_zip (x.mem_iff.mp g:(p.1,p.2)∈ls.zip (as.map Value.ref))).2;obtain⟨a,_,e⟩:=List.mem_map.mp this;rw[<-e];rfl
 have y:(ps.map fun p=>(p.1,addrOf p.2)).Perm (ls.zip as):=by
  have h1:=x.map (fun p:List Int×Value=>(p.1,addrOf p.2));have e:(ls.zip (as.map Value.ref)).map (fun p:List Int×Value=>(p.1,addrOf p.2))=ls.zip as:=by
   rw[List.zip_map_right,Am];exact(AO fun p _=>rfl).trans (List.map_id' _)
  rw[e] at h1;exact h1
 obtain⟨e,he⟩:=sortedAll_at s.heap (as.map Value.ref) d;have ex:d.toList=((ps.map fun p=>(p.1,addrOf p.2)).map fun q=>Value.ref q.2):=by
  rw[f,Am];exact AO fun p g=>all p g
 refine⟨.ref (s⁻¹+1),_,I.laid (t':=s.toks) (fun _ _=>sortedAll_old) (Nat.le_succ _) (show zC X.prog X.w _ _ _ (.lst ((ps.map fun p=>(p.1,addrOf p.2)).map fun q=>V.ref q.2)) from⟨?_,d.toList,e,?_,?_⟩),rfl,q _ _ y ?_ (I.hok.fresh (Nat.le_succ _))⟩
 ·rw[Ab,y.length_eq,List.length_zip];omega
 ·rw[ex]
  exact lJ (fun q:List Int×Addr=>q.2) _
 ·simpa using he
 ·rw[AW];exact hs
def ii(H:Hp)(p:Addr)(l:List Int):Prop:=Tp H p l/\l≠[]
def dS(H:Hp)(p:Addr)(l:List Int):Prop:=∃n m b ps,l=n::m::ps/\H p=some (.tup [.int n,.int m,.ref b])/\Tp H b ps
def wM{x:V}{xs:List V}{us:List Value}(h:Vals (x::xs) us):∃u c,us=u::c/\RelV x u/\Vals xs c:=by
 cases h with
 |cons a b=>exact⟨_,_,rfl,a,b⟩
def wN{h h':Heap}{a:Addr}{xs:Array Value}(k:∀b o,h.get? b=some o->h'.get? b=some o)(x:IsTup h a xs):IsTup h' a xs:=by
 obtain⟨o,e,r⟩:=x;exact⟨o,k _ _ e,r⟩
def wO(hu:X.A.units+64<cLine):bU X (.builtin "sorted") (fun xs H Q=>∃(l:Addr)(as:List Addr)(ls:Ξ),xs=[.ref l]/\SqL X.K H l (as.map V.ref)/\Paired (ii H) as ls/\ls.length<64/\
  ∀(D:Addr)(f:List (List Int×Addr)),f.Perm (ls.zip as)->f.Pairwise (fun a b=>HT.lexLt b.1 a.1=false)->H D=none->Q (.ref D) (upd H D (.lst (f.map fun q=>V.ref q.2)))):=
 B5 (At:=ii) (Is:=aF.IsTp) hu (fun aa σ H s I p l h=>by
  obtain⟨e,g,i,_⟩:=I.tuple (SqT.of (K:=X.K) h.1);exact⟨p,e,rfl,i,intsAre_of g,h.2⟩) (fun h h' u l k ⟨a,e,e1,e2,e3⟩=>⟨a,e,e1,wN k e2,e3⟩) fun A good us ls a _ c d=>aF.Io a c d
def Ir(hu:X.A.units+64<cLine):bU X (.builtin "sorted") (fun xs H Q=>∃(l:Addr)(as:List Addr)(ls:Ξ),xs=[.ref l]/\SqL X.K H l (as.map V.ref)/\Paired (dS H) as ls/\ls.length<64/\
  ∀(D:Addr)(f:List (List Int×Addr)),f.Perm (ls.zip as)->f.Pairwise (fun a b=>HT.lexLt b.1 a.1=false)->H D=none->Q (.ref D) (upd H D (.lst (f.map fun q=>V.ref q.2)))):=
 B5 (At:=dS) (Is:=aF.IsTr) hu (fun aa σ H s I p l h=>by
  obtain⟨n,m,b,ps,rfl,h1,h2⟩:=h;obtain⟨g,r,v,_⟩:=I.tuple (SqT.of (K:=X.K) h1);obtain⟨w,x,p2,_⟩:=I.tuple (SqT.of (K:=X.K) h2);obtain⟨i,F,rfl,⟨t,rfl⟩,y⟩:=wM r;obtain⟨i,G,rfl,⟨e,rfl⟩,z⟩:=wM y;obtain⟨i,J,rfl,C,E⟩:=wM z;cases C;cases E;exact⟨p,b,n,m,t,e,w,ps,rfl,rfl,v,p2,intsAre_of x⟩) (fun h h' u l k ⟨a,b,n,n2,t,e,g,ps,e1,e2,e3,j,o⟩=>⟨a,b,n,n2,t,e,g,ps,e1,e2,wN k e3,wN k j,o⟩) fun A good us ls a b c d=>aF.Iq a b c d
end
end L2
end
section
namespace L2
open PySem PySem.Spec PyProof.Rows
section
variable{X:Cx}{scope:Scope}{N':List Str}{az:List (Option Nat)}{tg iter cu:Expr}{bF:List Expr}{wi:TI}{g:TG}{tc:TT}{te:TE}{pos:Pos}
def Iu{i:Nat}{x:Str}{bg w:Pos}(hc:X.calm=true)(hk:scope.kind=.function)(F:∀y∈scope.names,y.2≠.cell)(P:∀y∈scope.names,y.2=.local->scope.names.lookup y.1=some .local)(hfr:∀y∈scope.names,y.2=.free->X.env.kindOf y.1=some .cell\/X.env.kindOf y.1=some .free)(Q:nV X.N N' az scope)(hi:PI X tg iter wi)(S:∀d C s₀ H₀ ex,PG (cxC X scope N' d C s₀ H₀ ex) tg g)(T:∀d C s₀ H₀ ex,iK (cxC X scope N' d C s₀ H₀ ex) bF tc)(he:∀d C s₀ H₀ ex,PE (cxC X scope N' d C s₀ H₀ ex) cu te)(hs:∀x,foldedSetIterable iter X.env x=pure x)(U:X.N.Nodup)(p:X.N[i]?=some x)(hx:Loc X.env.scope x)(hf:X.fn x=true\/X.env.scope.names.lookup x=some .local)(W:swapsWith (.ListComp cu [⟨tg,iter,bF,0⟩] scope pos) (some (.Name x bg)) w.line X.env=pure true):PS X (.Assign [.Name x bg] (.ListComp cu [⟨tg,iter,bF,0⟩] scope pos) w) (gJ (kd wi az g tc te) (cg i)):=by
 intro aa s σ H D I h;rw[exec_Assign_Name_used _ _ _ _ W];refine Aa (wpAny_standAt (Aa ?_));show wpAny _ X.A (do let _ <-comprehension (.ListComp cu [⟨tg,iter,bF,0⟩] scope pos) scope X.env _ (newList []) (firstAsync [⟨tg,iter,bF,0⟩]) (firstIter [⟨tg,iter,bF,0⟩] X.env) (some (assign (.Name x bg) X.env))) _ _ s;refine Aa (A9 (ye (use:=some (assign (.Name x bg) X.env)) (R:=fun _ s'=>SP X aa D .next s') hc hk F P hfr Q hi S T he hs I h fun E C H' r f L q=>?_) (fun _ s' hq=>Ac (Ac hq)) fun _ _ e=>e);show wpAny _ X.A (assign (.Name x bg) X.env (.ref E)) _ _ r;refine wpAny_assign_Name (xf (v:=.ref E) (L.back r.heap (Heap.SameBut.refl _ _)) U p hx rfl (fun G I5 ⟨a,l,J⟩=>?_) hf);have O:C≠a:=by
  rcases J with e|e
  ·rw[e];exact L.nl
  ·exact fun z=>L.nc x a e z.symm
 obtain⟨m,M⟩:=L.ns;refine⟨m,M.sameBut l O,fun h' j=>⟨_,H',?_,q⟩⟩;refine I5.call' (s':={G with heap:=h'}) (ch:=[C]) rfl ⟨fun b o q n hb hx=>?_,fun b o q n hb hx=>?_,fun b o q n hx=>n,fun b o q hx=>?_,fun b xs q=>q,fun b o u q=>q,fun b ps q=>⟨#[],by simpa using q⟩⟩ ?_ I5.bare fun b hb=>?_
 ·exact(j.2 b (by simpa using hx)).trans q
 ·exact⟨o.slots,(j.2 b (by simpa using hx)).trans q⟩
 ·exact⟨o,(j.2 b (by simpa using hx)).trans q⟩
 ·intro b u e
  refine(I5.hok b u e).stay (fun c v hc q=>(j.2 c ?_).trans q) (fun _ q=>q) fun _ _ q=>q;rintro rfl;rcases hc with z|z
  ·rw[<-z,L.no] at e;cases e
  ·rw[L.no] at z;cases z
 ·have e:b=C:=by simpa using hb
  subst e;exact⟨.inr L.far,L.nl,L.nc,L.np⟩
end
section
variable{X:Cx}{scope:Scope}{az:List (Option Nat)}{tg iter cu:Expr}{bF:List Expr}{wi:TI}{g:TG}{tc:TT}{te:TE}{pos:Pos}
def wP{i:Nat}{x:Str}{bg c:Pos}(d:X.N.Nodup)(b:X.N[i]?=some x)(hx:Loc X.env.scope x)(N N':List Str)(az:List (Option Nat))(hi:PI X tg iter wi)(e:∀a C s₀ H₀ ex,PG (cxC X scope N' a C s₀ H₀ ex) tg g)(f:∀a C s₀ H₀ ex,iK (cxC X scope N' a C s₀ H₀ ex) bF tc)(he:∀a C s₀ H₀ ex,PE (cxC X scope N' a C s₀ H₀ ex) cu te)(hc:X.calm=true:=by rfl)(hk:scope.kind=.function:=by rfl)(h:∀y∈scope.names,y.2≠.cell:=by decide +kernel)(j:∀y∈scope.names,y.2=.local->scope.names.lookup y.1=some .local:=by decide +kernel)(hfr:∀y∈scope.names,y.2=.free->X.env.kindOf y.1=some .cell\/X.env.kindOf y.1=some .free)(l:X.N=N:=by rfl)(o:g_ N N' az scope=true:=by decide +kernel)(hs:∀x,foldedSetIterable iter X.env x=pure x:=by intro _;rfl)(hf:X.fn x=true\/X.env.scope.names.lookup x=some .local:=by first|exact .inl rfl|exact .inr rfl|assumption)(p:swapsWith (.ListComp cu [⟨tg,iter,bF,0⟩] scope pos) (some (.Name x bg)) c.line X.env=pure true:=by rfl):PS X (.Assign [.Name x bg] (.ListComp cu [⟨tg,iter,bF,0⟩] scope pos) c) (gJ (kd wi az g tc te) (cg i)):=
 Iu hc hk h j hfr (yO (by rw[l];exact o)) hi e f he hs d b hx hf p
end
section
variable{X:Cx}
def wQ(K:Ae):R2:=fun x y H Q=>∃l m ns a,x=.ref l/\y=.ref m/\SqL K H l (List.map V.int ns)/\SqL K H m (List.map V.int a)/\Q (.bl (!decide (ns=a))) H
def wR(hu:X.A.units+64<cLine):bw X (Bg .NotEq) (wQ X.K):=by
 intro aa s σ H x y v u Q I b c h;obtain⟨l,m,ns,a,rfl,rfl,d,hm,q⟩:=h;cases b;cases c;obtain⟨_,f⟩:=pV I d;obtain⟨_,g⟩:=pV I hm;refine ne_dataH_same f g (pX _) (pX _) hu (SeqAt.noMix_of_shape (.list .int) rfl _ _ (pZ _) (pZ _)) ?_;have e:same (.list (ns.map AV)) (.list (a.map AV))=decide (ns=a):=by simp only[same];exact PySem.W.ke_sameAll ns a
 rw[e];exact⟨.bl _,H,I,rfl,q⟩
end
def wS{X:Cx}:bU X (.type "dict") (fun xs H Q=>∃a kvs,xs=[.ref a]/\Rd H a (.dK kvs)/\∀p,H p=none->Q (.ref p) (upd H p (.dK kvs))):=by
 intro aa s σ H xs us Q I r h;obtain⟨a,kvs,rfl,hq,q⟩:=h;obtain⟨u,rfl,b⟩:=vals1 r;cases b;exact DO I hq fun p s' hp c=>⟨.ref p,_,c,rfl,q p hp⟩
end L2
namespace K63
open K1
open PySem L2 STb
abbrev ij:Stmt:=top 41
section
variable{P:Program}{w:World}{K:Ae}{mg:Str->Option Value}{base:Heap}
def Iv{H2:Hp}{L d D:Addr}{as:List Addr}{c:Ξ}{cs:Wd}{Q:VK}(u:SqL K H2 L (as.map V.ref))(i:Tps H2 as c)(hz:c.length<=5)(hd:H2 d=some (.dT (aS cs)))(hr:∀r∈c,∃m,wv cs r=some m)(l:H2 D=none)(k:∀(H3:Hp),Same H2 H3->H3 D=some (.lst ((c.map fun r=>(wv cs r).getD 0).map V.int))->Q (.ref D) H3):bW (di K L) (cg 0) bq eR [none,some (.ref d)] H2 D Q:=by
 have w:=i.length;refine zI (xs:=as.map V.ref) (fun j σ ys H3=>∃(v:Option V),σ=[v,some (.ref d)]/\Same H2 H3/\H3 D=some (.lst ys)/\ys=((c.map fun r=>(wv cs r).getD 0).take j).map V.int) ?_ ?_ ?_ ?_
 ·exact⟨none,rfl,Same.new l,za,rfl⟩
 ·rintro j σ ys H3 ⟨v,rfl,a,f,rfl⟩
  exact a.seq u
 ·rintro j σ ys H3 x hx p hy ⟨v,rfl,a,f,rfl⟩
  obtain⟨o,q,rfl⟩:=zV hx;obtain⟨r,h,s⟩:=i.get q;obtain⟨m,hm⟩:=hr r (An h);have g:(as.map V.ref).length<=sizeLine:=by rw[Ab];exact zf ω
  have e:(c.map fun r=>(wv cs r).getD 0)[j]?=some m:=by rw[Ak,h];show some ((wv cs r).getD 0)=_;rw[hm];rfl
  have g1:DGet H3 d (.ref o) (some (.int m)):=by
   have:=DGet.t (k:=r.map Sum.inl) (b:=o) (a _ _ hd) (by rw[Am];exact a.tp s)
   rwa [ia,hm] at this
  refine bH ⟨_,rfl,_,rfl,d,_,rfl,g1,?_⟩;exact bb g p hy f ⟨_,rfl,a.then l,za,by rw[AX e,Av];rfl⟩
 ·rintro σ ys H3 ⟨v,rfl,a,f,rfl⟩
  rw[Ax (by rw[Ab,Ab];omega)] at f;exact k H3 a f
def B6(a:Ξ):Prop:=∀(i:Nat) p,a[i]?=some p->∀r∈rims p,r∈a.take i
def B7(K:Ae):Sp:=fun vs H Q _=>∃p l as a,vs=[.ref p,.ref l]/\zD H p/\H l=some (.lst (as.map V.ref))/\Tps H as a/\a.Nodup/\a.length<=56/\(∀p∈a,p.length<=5)/\B6 a/\
 ∀D H' cs,zx p H H'->zD H' p->H D=none->H' D=some (.dT (aS cs))->cs.map (·.1)=a->Q (.ref D) H'
abbrev B8:List Str:=["box","known","wide","found","piece","rims"]
def my:zw B8 ["box","known"] (ze ij):=⟨rfl,rfl,rfl,δ,rfl,δ,δ⟩
def Iw{f:Addr}{fd:FuncData}(F:Fun K "_law_worths" "_law_worths" ij f fd)(B:Bt mg)(jR:mg "max"=none)(Ct:Cl P w K mg base aC "_law_take" ["box","most"] 1 iS)(Cr:Cl P w K mg base aC "_law_rims" ["piece"] 1 ml):FnOk P w K mg base aC 2 f fd ["box","known"] (B7 K):=by
 refine F.ok my (fun vs H Q E h=>?_) (fun aq A outer s H vs Q E hr h=>?_)
 ·obtain⟨p,l,as,T,rfl,_⟩:=h;rfl
 ·obtain⟨p,l,as,T,rfl,hb,hl,ht,nk,bf,h5,rW,k⟩:=h
  have hu:=ey hr;refine⟨_,zb (zu (i:=2) my.nd rfl (Or.inl rfl) (bO zG (zJ (ac zg (ac zg (ac (zz jW zg zg) ai)))) (zT Ct hr rfl ao (ac (pv 0) (ac zg ai))) (fun _ _=>rfl)))
   (zb (zu (i:=3) my.nd rfl (Or.inr rfl) nQ)
   (zb (dF A8 rfl (zA (pv 1)) (zr (i:=4) my.nd rfl (Or.inl rfl))
    (zb (wP (i:=5) my.nd rfl (Or.inl rfl) B8 ["rim","found"] [none,some 3] (zA (zT Cr hr rfl ao (ac (pv 4) ai))) (fun cl C s₀ H₀ ex=>zr (i:=0) (cK ["rim","found"]) rfl (Or.inl rfl)) (fun cl C s₀ H₀ ex=>zS)
     (fun cl C s₀ H₀ ex=>fE hu (pv 1) (pv 0) (fun _ _=>rfl)) (hfr:=b9 (ze ij) δ) (te:=eR))
    (zd (zP (zk (HD hr.units) (pv 5) (zJ ai) (al _))
     (zd (gh hu (pv 3) (pv 4) (zz jg (zT Ct hr rfl ao (ac (pv 0) (ac (pv 2) ai))) (zz vu (pv 2) zg)) rfl))
     (zd (gh hu (pv 3) (pv 4) (zz fe (zi (v4 rfl) rfl jR wI (ac (pv 5) ai)) (zT Ct hr rfl ao (ac (pv 0) (ac zg ai)))) rfl))))))
   (zd (zn (pv 3))))),?_⟩
  refine⟨_,_,rfl,rfl,⟨ξ,ξ,ξ⟩,zf (by simp),fun L X=>?_⟩;have sL:=Same.new (o:=.lst [.int 3,.int 9,.int (10 ^ (20:Int).toNat)]) X;have cZ:zD (L2.upd H L (.lst [.int 3,.int 9,.int (10 ^ (20:Int).toNat)])) p:=hb.same sL;refine⟨_,rfl,p,3,rfl,cZ,ξ,ξ,fun r H1 r0 r3 sb bA=>?_⟩;have gW:L≠p:=fun z=>by rw[z] at X;obtain⟨x,y,e,_⟩:=hb;rw[X] at e;cases e
  have cF:=sb L _ gW za;have hW:∃W:Int,eC [V.int 3,.int 9,.int (10 ^ (20:Int).toNat)] r=some (.int W)/\0<W/\W<1180591620717411303424:=by
   have:r=0\/r=1\/r=2:=ω
   rcases this with rfl|rfl|rfl
   ·exact⟨3,ξ,ξ,ξ⟩
   ·exact⟨9,ξ,ξ,ξ⟩
   ·exact⟨10 ^ (20:Int).toNat,ξ,ξ,ξ⟩
  obtain⟨W,eW,W0,W1⟩:=hW;refine⟨L,_,r,_,rfl,rfl,SqL.of cF,eW,fun D hD=>?_⟩;have cH:zx p H H1:=(zx.of sL).trans sb;have g:H D=none:=cH.free hb bA hD;have jj:l≠p:=hb.ne hl;have J:∀{H2},zx p H H2->SqL K H2 l (as.map V.ref):=fun s=>SqL.of (s _ _ jj hl);have b:D≠p:=fun z=>by rw[z] at g;obtain⟨x,y,e,_⟩:=hb;rw[g] at e;cases e
  refine⟨_,rfl,l,rfl,⟨_,J (cH.then g)⟩,gO (K:=K) (a:=l) (xs:=as.map V.ref) (fun i σ H2=>∃(v w:Option V)(cs:Wd),σ=[some (.ref p),some (.ref l),some (.int W),some (.ref D),v,w]/\zx p H H2/\zD H2 p/\H2 D=some (.dT (aS cs))/\cs.map (·.1)=T.take i)
   ⟨none,none,[],rfl,cH.then g,bA.upd b,za,by rw[List.take_zero];rfl⟩ (fun i σ H2 _ ⟨_,_,_,_,c,_⟩=>J c) ?_ ?_⟩
  ·rintro i x σ H2 hx ⟨v,w',cs,rfl,c,U,I,hk⟩
   obtain⟨a,ea,rfl⟩:=zV hx;obtain⟨q,eq,hq⟩:=ht.get ea;have hi:i<T.length:=(List.getElem?_eq_some_iff.mp eq).1;have jn:=An eq;have nq:Tp H2 a q:=c.tp hb hq;have uw:∀r∈rims q,∃m,wv cs r=some m:=fun r cB=>mr (by rw[hk];exact rW i q eq r cB);have hcl:cs.length=i:=by have:=congrArg List.length hk;rw[Ab,AM] at this;omega
   have N:q∉cs.map (·.1):=fun z=>by
    rw[hk] at z;obtain⟨j,hj,e2⟩:=List.mem_take_iff_getElem.mp z;have e3:=(List.getElem?_eq_some_iff.mp eq).2;have:=(List.getElem_inj nk).mp (e2.trans e3.symm);omega
   have fin:∀{O:Hp}{n:Int}{v5:Option V},zx p H O->zD O p->O D=some (.dT (aS cs))->∃pU S,(V.ref D=V.ref pU)/\DPut O pU (.ref a) (.int n) S/\∃(v w:Option V)(cs:Wd),[some (V.ref p),some (.ref l),some (.int W),some (.ref D),some (.ref a),v5]=[some (.ref p),some (.ref l),some (.int W),some (.ref D),v,w]/\zx p H S/\zD S p/\S D=some (.dT (aS cs))/\cs.map (·.1)=T.take (i+1):=fun{O n v5} d b5 d5=>by
    refine⟨D,_,rfl,DPut.t (k:=q.map Sum.inl) d5 (by rw[Am];exact d.tp hb hq) (by unfold aS;rw[Ab];exact a7 ω),_,_,cs++[(q,n)],rfl,d.then g,b5.upd b,?_,?_⟩
    ·rw[za,BQ N]
    ·rw[Av,hk,AX eq];rfl
   refine⟨_,rfl,a,q,rfl,nq,h5 q jn,fun L2 H3 bs s3 dc iB io=>⟨L2,rfl,⟨_,SqL.of iB⟩,fun D2 bJ=>zF (Iv (SqL.of iB) io (AF (pw q) (h5 q jn)) (s3 _ _ I) uw bJ fun S s4 bC=>?_)⟩⟩;have tV:=s3.trans s4;refine⟨_,rfl,zf (by simp),fun E0 qD=>?_⟩;have d:=Same.new (o:=.lst []) qD;have u:=tV.trans d;refine⟨D2,E0,(rims q).map fun r=>(wv cs r).getD 0,[],rfl,rfl,SqL.of (d _ _ bC),SqL.of za,_,rfl,?_⟩
   by_cases e0:((rims q).map fun r=>(wv cs r).getD 0)=[]
   ·rw[decide_eq_true e0]
    refine aT ⟨_,rfl,_,rfl,p,W,rfl,U.same u,W0,W1,fun r5 H6 _ _ G Y=>⟨_,rfl,_,_,rfl,rfl,⟨ξ,ξ⟩,_,_,rfl,rfl,_,rfl,_,rfl,?_⟩⟩;exact fin ((c.trans (zx.of u)).trans G) Y (G _ _ b (u _ _ I))
   ·rw[decide_eq_false e0]
    refine aB ⟨_,rfl,D2,_,rfl,SqL.of (d _ _ bC),e0,fun M _ _=>⟨_,rfl,p,3,rfl,U.same u,ξ,ξ,fun r5 H6 _ _ G Y=>⟨_,_,rfl,rfl,_,rfl,_,rfl,?_⟩⟩⟩;exact fin ((c.trans (zx.of u)).trans G) Y (G _ _ b (u _ _ I))
  ·rintro σ H2 ⟨v,w',cs,rfl,c,U,I,hk⟩
   have aM:=ht.length;rw[Ax (by rw[Ab];omega)] at hk;exact⟨_,rfl,k D H2 cs c U g I hk⟩
end
end K63
end
section
namespace K63
open K1
open PySem L2 STb
abbrev zN:Stmt:=top 42
def zM(cs:Wd):Ξ:=cs.map fun c=>c.1
def fV(cs:Wd)(p:List Int)(n:Int):Wd:=if p∈zM cs then cs.map (fun c=>if c.1=p then(c.1,n) else c) else cs++[(p,n)]
def qh{p q:List Int}:(p.map Sum.inl:List Key)=q.map Sum.inl↔p=q:=⟨wx,fun h=>by rw[h]⟩
def B9(cs:Wd)(ps:List Int)(n:Int):putK (aS cs) (ps.map Sum.inl) (.int n)=aS (fV cs ps n):=by
 unfold putK aS fV;have a:((cs.map fun c=>((c.1.map Sum.inl:List Key),V.int c.2)).any fun kv=>decide (kv.1=ps.map Sum.inl))=decide (ps∈zM cs):=by
  rw[List.any_map]
  by_cases h:ps∈zM cs
  ·rw[decide_eq_true h,List.any_eq_true]
   obtain⟨c,hc,e⟩:=List.mem_map.mp h;exact⟨c,hc,decide_eq_true (qh.mpr e)⟩
  ·rw[decide_eq_false h,List.any_eq_false]
   intro c hc;simp only[Function.comp,decide_eq_true_eq,qh];rintro rfl;exact h (List.mem_map.mpr ⟨c,hc,rfl⟩)
 rw[a]
 by_cases h:ps∈zM cs
 ·rw[decide_eq_true h,if_pos rfl,if_pos h,Am,Am]
  refine AO fun c hc=>?_;simp only[Function.comp]
  by_cases e:c.1=ps
  ·rw[if_pos e,if_pos (qh.mpr e)]
  ·rw[if_neg e,if_neg (fun z=>e (qh.mp z))]
 ·rw[decide_eq_false h,if_neg (by simp),if_neg h,Av]
  rfl
def B_(cs:Wd)(p:List Int)(n:Int):zM (fV cs p n)=if p∈zM cs then zM cs else zM cs++[p]:=by
 unfold fV
 by_cases h:p∈zM cs
 ·rw[if_pos h,if_pos h]
  unfold zM;rw[Am];refine AO fun c _=>?_;simp only[Function.comp];split<;>rfl
 ·rw[if_neg h,if_neg h]
  unfold zM;rw[Av];rfl
structure zcg(ap cs:Wd):Prop where
 nd:(zM cs).Nodup
 sub:∀k∈zM cs,k∈zM ap\/k=[99]
def zcg.put{ap cs:Wd}{p:List Int}{n:Int}(t:zcg ap cs)(h:p∈zM ap\/p=[99]):zcg ap (fV cs p n):=by
 refine⟨?_,fun k hk=>?_⟩
 ·rw[B_]
  split
  ·exact t.nd
  ·rename_i hn
   exact List.nodup_append.mpr ⟨t.nd,by simp,fun a c b hb=>by rw[List.mem_singleton.mp hb];exact fun e=>hn (e▸c)⟩
 ·rw[B_] at hk
  split at hk
  ·exact t.sub k hk
  ·rcases List.mem_append.mp hk with hk|hk
   ·exact t.sub k hk
   ·rw[List.mem_singleton.mp hk];exact h
def zcg.erase{ap cs:Wd}(t:zcg ap cs)(j:Nat):zcg ap (cs.eraseIdx j):=by
 have s:(zM (cs.eraseIdx j)).Sublist (zM cs):=(List.eraseIdx_sublist _ _).map _;exact⟨t.nd.sublist s,fun k hk=>t.sub k (s.subset hk)⟩
def zcg.len{ap cs:Wd}(t:zcg ap cs):cs.length<=ap.length+1:=by
 have:=t.nd.length_le_of_subset (l₂:=zM ap++[[99]]) fun k hk=>by
  rcases t.sub k hk with h|h
  ·exact List.mem_append_left _ h
  ·rw[h];simp
 rw[AC] at this;unfold zM at this
 simpa using this
structure Tn(H H2:Hp)(p D LK:Addr)(ks:List Addr)(ls:Ξ)(ap cs:Wd):Prop where
 sb:zx p H H2
 hb:zD H2 p
 hD:H2 D=some (.dT (aS cs))
 hL:H2 LK=some (.lst (ks.map V.ref))
 ht:Tps H2 ks ls
 gd:zcg ap cs
section
variable{P:Program}{w:World}{K:Ae}{mg:Str->Option Value}{base:Heap}{H H2 H3:Hp}{p D LK:Addr}{ks:List Addr}{ls:Ξ}{ap cs:Wd}
def Tn.np(t:Tn H H2 p D LK ks ls ap cs):D≠p:=fun z=>by
 obtain⟨x,y,e,_⟩:=t.hb;have:=t.hD;rw[z,e] at this;cases this
def Tn.nl(t:Tn H H2 p D LK ks ls ap cs):LK≠D:=fun z=>by
 have:=t.hD;rw[<-z,t.hL] at this;cases this
def Tn.draw(t:Tn H H2 p D LK ks ls ap cs)(a:zx p H2 H3)(hb:zD H3 p):Tn H H3 p D LK ks ls ap cs:=⟨t.sb.trans a,hb,a _ _ t.np t.hD,a _ _ (t.hb.ne t.hL) t.hL,a.tps t.hb t.ht,t.gd⟩
def Tn.same(t:Tn H H2 p D LK ks ls ap cs)(s:Same H2 H3):Tn H H3 p D LK ks ls ap cs:=t.draw (zx.of s) (t.hb.same s)
def Tn.put(t:Tn H H2 p D LK ks ls ap cs)(c:H D=none){b:Wd}(g:zcg ap b):Tn H (upd H2 D (.dT (aS b))) p D LK ks ls ap b:=
 ⟨t.sb.then c,t.hb.upd t.np,za,by rw[zh t.nl];exact t.hL,Paired.mapP t.ht fun a q e=>by show _=_;rw[zh (fun z=>by have:=t.hD;rw[<-z] at this;rw[show H2 a=some (.tup (q.map V.int)) from e] at this;cases this)];exact e,g⟩
abbrev ik:List Str:=["box","worths","other","found","keys","way","key"]
def gD:zw ik ["box","worths","other"] (ze zN):=⟨rfl,rfl,rfl,δ,rfl,δ,δ⟩
def qj{a:Type}{b:List (List Int×a)}{l:Ξ}{as:List a}(hp:b.Perm (l.zip as))(c:l.length=as.length):(b.map (·.1)).Perm l:=by
 have:=hp.map (·.1)
 rwa [List.map_fst_zip ω] at this
def wT{a:List (List Int×Addr)}{l:Ξ}{as:List Addr}(hp:∀q∈a,q∈l.zip as)(b:Tps H as l):Tps H (a.map (·.2)) (a.map (·.1)):=by
 induction a with
 |nil=>exact .nil
 |cons q a ih=>
  refine .cons ?_ (ih fun x hx=>hp x (Ay _ hx));obtain⟨i,e⟩:=List.mem_iff_getElem?.mp (hp q AB);obtain⟨e1,e2⟩:=List.getElem?_zip_eq_some.mp e;obtain⟨r,g1,g2⟩:=b.get e2;rw[e1] at g1;obtain rfl:=Al g1;exact g2
def B'{cs:Wd}{bs:List Addr}(h:Paired (fun(p:List Key×V) b=>H b=some (.tup (p.1.map kV))) (aS cs) bs):Tps H bs (zM cs):=by
 unfold aS at h;unfold zM
 induction cs generalizing bs with
 |nil=>cases h;exact .nil
 |cons c cs ih=>
  cases h with
  |cons e t=>exact .cons (by have:H _=_:=e;rwa [Am] at this) (ih t)
def mC(K:Ae)(P:Program)(w:World):Sp:=fun vs H Q _=>∃p d o cs,vs=[.ref p,.ref d,.ref o]/\zD H p/\H d=some (.dT (aS cs))/\Tp H o [99]/\(zM cs).Nodup/\cs.length<=56/\(∀k∈zM cs,k≠[])/\((zM cs).map (Aq (intKind P w))).Nodup/\
 ∀D H' a,zx p H H'->zD H' p->H D=none->H' D=some (.dT (aS a))->zcg cs a->Q (.ref D) H'
def Ix{f:Addr}{fd:FuncData}(F:Fun K "_law_turned" "_law_turned" zN f fd)(B:Bt mg)(cY:mg "dict"=none)(Ct:Cl P w K mg base aC "_law_take" ["box","most"] 1 iS):FnOk P w K mg base aC 2 f fd ["box","worths","other"] (mC K P w):=by
 refine F.ok gD (fun vs H Q E h=>?_) (fun U A outer s H vs Q E hr h=>?_)
 ·obtain⟨p,d,o,cs,rfl,_⟩:=h;rfl
 ·obtain⟨p,d,o,ap,rfl,hb,hd,ho,nd,J,hne,hh,k⟩:=h
  have hu:=ey hr;have X:=hr.units;have R6:∃C,PSs (a0 aC P w K mg base ik "_law_turned" (ze zN) f U A outer s H E).nox (List.drop 6 (zL zN)) C/\
    ∀(D LK:Addr)(ks:List Addr)(ls:Ξ)(cs:Wd)(a:Int)(x:Option V)(H2:Hp),H D=none->Tn H H2 p D LK ks ls ap cs->
     C {nx:=fun _ H'=>Q .non H',rt:=Q} [some (.ref p),some (.ref d),some (.ref o),some (.ref D),some (.ref LK),some (.int a),x] H2:=by
   refine⟨_,zd (zn (pv 3)),?_⟩;intro D LK ks ls cs a x H2 c t;exact⟨_,rfl,k D H2 cs t.sb t.hb c t.hD t.gd⟩
  obtain⟨oZ,fJ,bu⟩:=R6;have R5:∃C,PSs (a0 aC P w K mg base ik "_law_turned" (ze zN) f U A outer s H E).nox (List.drop 5 (zL zN)) C/\
    ∀(D LK:Addr)(ks:List Addr)(ls:Ξ)(cs:Wd)(a:Int)(x:Option V)(H2:Hp),H D=none->Tn H H2 p D LK ks ls ap cs->
     C {nx:=fun _ H'=>Q .non H',rt:=Q} [some (.ref p),some (.ref d),some (.ref o),some (.ref D),some (.ref LK),some (.int a),x] H2:=by
   refine⟨_,zb (zP (zk c5 (pv 5) zg (al _)) (zd (gh hu (pv 3) (pv 2) (zz jW zg zg) rfl)) zt) fJ,?_⟩;intro D LK ks ls cs a x H2 c t;refine⟨_,rfl,rfl,_,rfl,bR (fun e=>?_) fun e=>bu D LK ks ls cs a x H2 c t⟩;have hl:=t.gd.len;have u7:o≠p:=hb.net ho;refine⟨_,_,rfl,rfl,⟨ξ,ξ,ξ⟩,_,rfl,_,rfl,D,_,rfl,DPut.t (k:=[99].map Sum.inl) t.hD (by rw[Am];exact t.sb _ _ u7 ho) (by unfold aS;rw[Ab];exact a7 ω),?_⟩;rw[B9];exact bu D LK ks ls _ a x _ c (t.put c (t.gd.put (.inr rfl)))
  obtain⟨vx,i6,bS⟩:=R5;have R4:∃C,PSs (a0 aC P w K mg base ik "_law_turned" (ze zN) f U A outer s H E).nox (List.drop 4 (zL zN)) C/\
    ∀(D LK:Addr)(ks:List Addr)(ls:Ξ)(cs:Wd)(a:Int)(x:Option V)(H2:Hp),H D=none->Tn H H2 p D LK ks ls ap cs->(a=1->∀q∈ls,q∈zM cs)->ls.length<=56->
     C {nx:=fun _ H'=>Q .non H',rt:=Q} [some (.ref p),some (.ref d),some (.ref o),some (.ref D),some (.ref LK),some (.int a),x] H2:=by
   refine⟨_,zb (zP (PW.pt (fc (zk c5 (pv 5) zg (al _)) (fb (zk (n7 X) (pv 4) (zJ ai) (al _)))))
    (zd (fy (Ij X (pv 3) (bO zG (pv 4) (zT Ct hr rfl ao (ac (pv 0) (ac (zi zm rfl B.len dh (ac (pv 4) ai)) ai))) (fun _ _=>rfl)) ⟨rfl,rfl,rfl,rfl⟩))) zt) i6,?_⟩
   intro D LK ks ls cs a x H2 c t hk J;refine⟨_,rfl,rfl,_,rfl,bR (fun e=>?_) (fun e=>bS D LK ks ls cs a x H2 c t)⟩;have e1:a=1:=by have:=of_decide_eq_true e;injection this
   have hl:=t.ht.length;refine⟨_,rfl,zf (by simp),fun T hT=>.inr ⟨LK,T,ks,[],ls,[],rfl,rfl,SqL.of ((Same.new hT) _ _ t.hL),(Same.new hT).tps t.ht,SqL.of za,.nil,_,rfl,?_⟩⟩;have y:=t.same (Same.new (o:=.lst []) hT);generalize upd H2 T (.lst [])=H3 at y;rw[if_pos rfl]
   by_cases G:ls=[]
   ·rw[decide_eq_true G]
    exact aB (bS D LK ks ls cs a x H3 c y)
   rw[decide_eq_false G];have N:=List.length_pos_iff.mpr G;refine aT ⟨_,rfl,D,rfl,.inr ⟨_,.inl y.hD⟩,?_⟩;refine⟨_,rfl,_,rfl,_,rfl,LK,_,rfl,.inl (SqL.of y.hL),p,_,rfl,y.hb,by rw[Ab];omega,by rw[Ab];omega,fun r H4 r0 r1 bG bB=>?_⟩;have u:=y.draw bG bB;rw[Ab] at r1;obtain⟨j,rfl⟩:=Int.eq_ofNat_of_zero_le r0;have hj:j<ks.length:=ω
   have O:ks[j]?=some ks[j]:=Af hj;obtain⟨q,eq,hq⟩:=u.ht.get O;refine⟨LK,_,_,.ref ks[j],rfl,rfl,SqL.of u.hL,ff (by rw[Ak,O];rfl),aS cs,q.map Sum.inl,ks[j],u.hD,rfl,by rw[Am];exact hq,?_,fun i v ei=>?_⟩
   ·rw[gu]
    exact List.mem_map.mpr ⟨q,hk e1 q (An eq),rfl⟩
   ·rw[show(aS cs).eraseIdx i=aS (cs.eraseIdx i) from DPo.qg _ _ _]
    exact bS D LK ks ls _ a x _ c (u.put c (u.gd.erase i))
  obtain⟨ua,iP,bM⟩:=R4;have R3:∃C,PSs (a0 aC P w K mg base ik "_law_turned" (ze zN) f U A outer s H E).nox (List.drop 3 (zL zN)) C/\
    ∀(D LK:Addr)(ks:List Addr)(ls:Ξ)(a:Int)(H2:Hp),H D=none->Tn H H2 p D LK ks ls ap ap->(∀q∈ls,q∈zM ap)->ls.length<=56->
     C {nx:=fun _ H'=>Q .non H',rt:=Q} [some (.ref p),some (.ref d),some (.ref o),some (.ref D),some (.ref LK),some (.int a),none] H2:=by
   refine⟨_,zb (zP (PW.pt (fc (zk c5 (pv 5) zg (al _)) (fb (zk (n7 X) (pv 4) (zJ ai) (al _)))))
    (zb (zu (i:=6) gD.nd rfl (Or.inl rfl) (bO zG (pv 4) (zT Ct hr rfl ao (ac (pv 0) (ac (zi zm rfl B.len dh (ac (pv 4) ai)) ai))) (fun _ _=>rfl)))
    (zd (gh hu (pv 3) (pv 6) (zz jg (zz jg (fE hu (pv 3) (pv 6) (fun _ _=>rfl)) zg) (zT Ct hr rfl ao (ac (pv 0) (ac zg ai)))) rfl))) zt) iP,?_⟩
   intro D LK ks ls a H2 c t hk J;refine⟨_,rfl,rfl,_,rfl,bR (fun e=>?_) (fun e=>bM D LK ks ls ap a none H2 c t (fun _=>hk) J)⟩;have e0:a=0:=by have:=of_decide_eq_true e;injection this
   have hl:=t.ht.length;refine⟨_,rfl,zf (by simp),fun T hT=>.inr ⟨LK,T,ks,[],ls,[],rfl,rfl,SqL.of ((Same.new hT) _ _ t.hL),(Same.new hT).tps t.ht,SqL.of za,.nil,_,rfl,?_⟩⟩;have y:=t.same (Same.new (o:=.lst []) hT);generalize upd H2 T (.lst [])=H3 at y;rw[if_pos rfl]
   by_cases G:ls=[]
   ·rw[decide_eq_true G]
    exact aB (bM D LK ks ls ap a none H3 c y (fun _=>hk) J)
   rw[decide_eq_false G];have N:=List.length_pos_iff.mpr G;refine aT ⟨_,rfl,_,rfl,_,rfl,LK,_,rfl,.inl (SqL.of y.hL),p,_,rfl,y.hb,by rw[Ab];omega,by rw[Ab];omega,fun r H4 r0 r1 bG bB=>?_⟩;have u:=y.draw bG bB;rw[Ab] at r1;obtain⟨j,rfl⟩:=Int.eq_ofNat_of_zero_le r0;have hj:j<ks.length:=ω
   have O:ks[j]?=some ks[j]:=Af hj;obtain⟨q,eq,hq⟩:=u.ht.get O;have kc:=hk q (An eq);obtain⟨n,G⟩:=mr (cs:=ap) kc;have g:DGet H4 D (.ref ks[j]) (some (.int n)):=by
    have:=DGet.t (k:=q.map Sum.inl) (b:=ks[j]) u.hD (by rw[Am];exact hq)
    rwa [ia,G] at this
   refine⟨LK,_,_,.ref ks[j],rfl,rfl,SqL.of u.hL,ff (by rw[Ak,O];rfl),?_⟩;refine⟨_,rfl,_,rfl,D,_,rfl,g,_,_,rfl,rfl,_,rfl,p,3,rfl,u.hb,ξ,ξ,fun r5 H5 _ _ M W=>⟨_,_,rfl,rfl,_,rfl,_,rfl,D,_,rfl,DPut.t (k:=q.map Sum.inl) (u.draw M W).hD (by rw[Am];exact M.tp u.hb hq) (by unfold aS;rw[Ab];exact a7 ω),?_⟩⟩;rw[B9];exact bM D LK ks ls _ a _ _ c ((u.draw M W).put c (u.gd.put (.inl kc))) (fun z=>ω) J
  obtain⟨rL,i5,fq⟩:=R3;refine⟨_,zb (zu (i:=3) gD.nd rfl (Or.inl rfl) (zq wn rfl cY fu (ac (pv 1) ai)))
   (zb (zu (i:=4) gD.nd rfl (Or.inl rfl) (zi (wO X) rfl B.sorted gj (ac (zq (nX rfl) rfl B.list er (ac (pv 3) ai)) ai)))
   (zb (zu (i:=5) gD.nd rfl (Or.inl rfl) (zT Ct hr rfl ao (ac (pv 0) (ac zg ai)))) i5)),?_⟩
  refine⟨_,rfl,d,aS ap,zM ap,rfl,.inl hd,gu ap,hh,fun D c=>?_⟩;have s1:=Same.new (o:=.dT (aS ap)) c;refine⟨_,rfl,D,aS ap,rfl,za,fun bs io L hL=>?_⟩;have Y:=Same.new (o:=.lst (bs.map V.ref)) hL;have tk:=B' io;have kl:=tk.length;have kz:(zM ap).length=ap.length:=Ab _;refine⟨L,bs,zM ap,rfl,SqL.of za,?_,ω,fun LK I hp _ kM=>?_⟩
  ·have:∀{as:List Addr}{l:Ξ},Tps (upd (upd H D (.dT (aS ap))) L (.lst (bs.map V.ref))) as l->(∀k∈l,k≠[])->Paired (ii (upd (upd H D (.dT (aS ap))) L (.lst (bs.map V.ref)))) as l:=by
    intro as l t
    induction t with
    |nil=>intro _;exact .nil
    |cons e t ih=>intro h;exact .cons ⟨e,h _ AB⟩ (ih fun k hk=>h k (Ay _ hk))
   exact this (Y.tps tk) hne
  ·have s3:=Same.new (o:=.lst (I.map fun q=>V.ref q.2)) kM
   have S:=(s1.trans Y).trans s3;have kW:=hb.same S;refine⟨_,rfl,p,6,rfl,kW,ξ,ξ,fun a H5 _ _ M W=>?_⟩;have e:(I.map fun q=>V.ref q.2)=(I.map (·.2)).map V.ref:=by rw[Am];rfl
   have t0:Tn H (upd (upd (upd H D (.dT (aS ap))) L (.lst (bs.map V.ref))) LK (.lst (I.map fun q=>V.ref q.2))) p D LK (I.map (·.2)) (I.map (·.1)) ap ap:=
    ⟨zx.of S,kW,s3 _ _ (Y _ _ za),by rw[za,e],wT (fun q hq=>hp.mem_iff.mp hq) (s3.tps (Y.tps tk)),⟨nd,fun k hk=>.inl hk⟩⟩
   have pk:=qj hp ω;refine fq D LK _ _ a _ c (t0.draw M W) (fun q hq=>pk.mem_iff.mp hq) (by rw[pk.length_eq];omega)
end
end K63
end
section
namespace K63
open K1
open PySem L2 STb
def keysA(ns:Ag):List Int:=ns.map fun c=>c.1
def bj(ns:Ag):List (Key×V):=(ns.map fun p=>(p.1,V.int p.2)).map fun p=>((Sum.inl p.1:Key),p.2)
def fW(ns:Ag)(x:Int)(n:Int):Ag:=if x∈keysA ns then ns.map (fun c=>if c.1=x then(c.1,n) else c) else ns++[(x,n)]
def Cd(ns:Ag):(bj ns).length=ns.length:=by unfold bj;rw[Ab,Ab]
def Ce(ns:Ag)(x n:Int):putK (bj ns) (Sum.inl x) (.int n)=bj (fW ns x n):=by
 unfold putK bj fW;have a:(((ns.map fun p=>(p.1,V.int p.2)).map fun p=>((Sum.inl p.1:Key),p.2)).any fun kv=>decide (kv.1=Sum.inl x))=decide (x∈keysA ns):=by
  rw[List.any_map,List.any_map]
  by_cases h:x∈keysA ns
  ·rw[decide_eq_true h,List.any_eq_true]
   obtain⟨c,hc,e⟩:=List.mem_map.mp h;exact⟨c,hc,decide_eq_true (by show(Sum.inl c.1:Key)=_;rw[show c.1=x from e])⟩
  ·rw[decide_eq_false h,List.any_eq_false]
   intro c hc;simp only[Function.comp,decide_eq_true_eq];intro z;exact h (List.mem_map.mpr ⟨c,hc,Sum.inl.inj z⟩)
 rw[a]
 by_cases h:x∈keysA ns
 ·rw[decide_eq_true h,if_pos rfl,if_pos h,Am,Am,Am,Am]
  refine AO fun c hc=>?_;simp only[Function.comp]
  by_cases e:c.1=x
  ·rw[if_pos e,if_pos (by rw[e])]
  ·rw[if_neg e,if_neg (fun z=>e (Sum.inl.inj z))]
 ·rw[decide_eq_false h,if_neg (by simp),if_neg h,Av,Av]
  rfl
def Cf(ns:Ag)(p:Int)(n:Int):keysA (fW ns p n)=if p∈keysA ns then keysA ns else keysA ns++[p]:=by
 unfold fW
 by_cases h:p∈keysA ns
 ·rw[if_pos h,if_pos h]
  unfold keysA;rw[Am];refine AO fun c _=>?_;simp only[Function.comp];split<;>rfl
 ·rw[if_neg h,if_neg h]
  unfold keysA;rw[Av];rfl
def qm(ns:Ag)(x:Int):Ag:=ns.filter fun c=>decide (c.1≠x)
def Iy(ns:Ag)(x:Int):jv (bj ns) (Sum.inl x)=bj (qm ns x):=by
 unfold jv bj qm;rw[Am,Am,List.filter_map]
 congr 1
 refine List.filter_congr fun c _=>?_;show decide ((Sum.inl c.1:Key)≠Sum.inl x)=decide (c.1≠x);exact decide_eq_decide.mpr ⟨fun h e=>h (by rw[e]),fun h e=>h (Sum.inl.inj e)⟩
structure zcM(ap cs:Ag):Prop where
 nd:(keysA cs).Nodup
 sub:∀k∈keysA cs,k∈keysA ap\/k=99
def zcM.put{ap cs:Ag}{p:Int}{n:Int}(t:zcM ap cs)(h:p∈keysA ap\/p=99):zcM ap (fW cs p n):=by
 refine⟨?_,fun k hk=>?_⟩
 ·rw[Cf]
  split
  ·exact t.nd
  ·rename_i hn
   exact List.nodup_append.mpr ⟨t.nd,by simp,fun a c b hb=>by rw[List.mem_singleton.mp hb];exact fun e=>hn (e▸c)⟩
 ·rw[Cf] at hk
  split at hk
  ·exact t.sub k hk
  ·rcases List.mem_append.mp hk with hk|hk
   ·exact t.sub k hk
   ·rw[List.mem_singleton.mp hk];exact h
def zcM.erase{ap cs:Ag}(t:zcM ap cs)(x:Int):zcM ap (qm cs x):=by
 have s:(keysA (qm cs x)).Sublist (keysA cs):=(List.filter_sublist).map _;exact⟨t.nd.sublist s,fun k hk=>t.sub k (s.subset hk)⟩
def zcM.len{ap cs:Ag}(t:zcM ap cs):cs.length<=ap.length+1:=by
 have:=t.nd.length_le_of_subset (l₂:=keysA ap++[99]) fun k hk=>by
  rcases t.sub k hk with h|h
  ·exact List.mem_append_left _ h
  ·rw[h];simp
 rw[AC] at this;unfold keysA at this
 simpa using this
structure Tz(H H2:Hp)(p D LK:Addr)(ls:List Int)(ap cs:Ag):Prop where
 sb:zx p H H2
 hb:zD H2 p
 hD:H2 D=some (.dK (bj cs))
 hL:H2 LK=some (.lst (ls.map V.int))
 nl':LK≠p
 gd:zcM ap cs
section
variable{P:Program}{w:World}{K:Ae}{mg:Str->Option Value}{base:Heap}{H H2 H3:Hp}{p D LK:Addr}{ls:List Int}{ap cs:Ag}
def Tz.np(t:Tz H H2 p D LK ls ap cs):D≠p:=fun z=>by
 obtain⟨x,y,e,_⟩:=t.hb;have:=t.hD;rw[z,e] at this;cases this
def Tz.nl(t:Tz H H2 p D LK ls ap cs):LK≠D:=fun z=>by
 have:=t.hD;rw[<-z,t.hL] at this;cases this
def Tz.draw(t:Tz H H2 p D LK ls ap cs)(a:zx p H2 H3)(hb:zD H3 p):Tz H H3 p D LK ls ap cs:=⟨t.sb.trans a,hb,a _ _ t.np t.hD,a _ _ t.nl' t.hL,t.nl',t.gd⟩
def Tz.same(t:Tz H H2 p D LK ls ap cs)(s:Same H2 H3):Tz H H3 p D LK ls ap cs:=t.draw (zx.of s) (t.hb.same s)
def Tz.put(t:Tz H H2 p D LK ls ap cs)(b:H D=none){a:Ag}(g:zcM ap a):Tz H (upd H2 D (.dK (bj a))) p D LK ls ap a:=
 ⟨t.sb.then b,t.hb.upd t.np,za,by rw[zh t.nl];exact t.hL,t.nl',g⟩
def mH(K:Ae):Sp:=fun vs H Q _=>∃p d cs,vs=[.ref p,.ref d,.int 99]/\zD H p/\H d=some (dA cs)/\(keysA cs).Nodup/\cs.length<=56/\
 ∀D H' a,zx p H H'->zD H' p->H D=none->H' D=some (dA a)->zcM cs a->Q (.ref D) H'
def Iz{f:Addr}{fd:FuncData}(F:Fun K "_law_turned" "_law_turned" zN f fd)(B:Bt mg)(cY:mg "dict"=none)(U:Cl P w K mg base aC "_law_take" ["box","most"] 1 iS):FnOk P w K mg base aC 2 f fd ["box","worths","other"] (mH K):=by
 refine F.ok gD (fun vs H Q E h=>?_) (fun M A outer s H vs Q E hr h=>?_)
 ·obtain⟨p,d,cs,rfl,_⟩:=h;rfl
 ·obtain⟨p,d,ap,rfl,hb,hd,nd,G,k⟩:=h
  have hu:=ey hr;have aE:=hr.units;have R6:∃u,PSs (a0 aC P w K mg base ik "_law_turned" (ze zN) f M A outer s H E).nox (List.drop 6 (zL zN)) u/\
    ∀(D LK:Addr)(ls:List Int)(cs:Ag)(a:Int)(c:Option V)(H2:Hp),H D=none->Tz H H2 p D LK ls ap cs->
     u {nx:=fun _ H'=>Q .non H',rt:=Q} [some (.ref p),some (.ref d),some (.int 99),some (.ref D),some (.ref LK),some (.int a),c] H2:=by
   refine⟨_,zd (zn (pv 3)),?_⟩;intro D LK ls cs a c H2 b t;exact⟨_,rfl,k D H2 cs t.sb t.hb b t.hD t.gd⟩
  obtain⟨oZ,fJ,bu⟩:=R6;have R5:∃u,PSs (a0 aC P w K mg base ik "_law_turned" (ze zN) f M A outer s H E).nox (List.drop 5 (zL zN)) u/\
    ∀(D LK:Addr)(ls:List Int)(cs:Ag)(a:Int)(c:Option V)(H2:Hp),H D=none->Tz H H2 p D LK ls ap cs->
     u {nx:=fun _ H'=>Q .non H',rt:=Q} [some (.ref p),some (.ref d),some (.int 99),some (.ref D),some (.ref LK),some (.int a),c] H2:=by
   refine⟨_,zb (zP (zk c5 (pv 5) zg (al _)) (zd (gh hu (pv 3) (pv 2) (zz jW zg zg) rfl)) zt) fJ,?_⟩;intro D LK ls cs a c H2 b t;refine⟨_,rfl,rfl,_,rfl,bR (fun e=>?_) fun e=>bu D LK ls cs a c H2 b t⟩;have hl:=t.gd.len;refine⟨_,_,rfl,rfl,⟨ξ,ξ,ξ⟩,_,rfl,_,rfl,D,_,rfl,DPut.k (k:=Sum.inl 99) t.hD (by rw[Cd];exact a7 ω),?_⟩;rw[Ce];exact bu D LK ls _ a c _ b (t.put b (t.gd.put (.inr rfl)))
  obtain⟨vx,i6,bS⟩:=R5;have R4:∃u,PSs (a0 aC P w K mg base ik "_law_turned" (ze zN) f M A outer s H E).nox (List.drop 4 (zL zN)) u/\
    ∀(D LK:Addr)(ls:List Int)(cs:Ag)(a:Int)(c:Option V)(H2:Hp),H D=none->Tz H H2 p D LK ls ap cs->(a=1->∀q∈ls,q∈keysA cs)->ls.length<=56->
     u {nx:=fun _ H'=>Q .non H',rt:=Q} [some (.ref p),some (.ref d),some (.int 99),some (.ref D),some (.ref LK),some (.int a),c] H2:=by
   refine⟨_,zb (zP (PW.pt (fc (zk c5 (pv 5) zg (al _)) (fb (zk (wR aE) (pv 4) (zJ ai) (al _)))))
    (zd (fy (DN (pv 3) (bO zG (pv 4) (zT U hr rfl ao (ac (pv 0) (ac (zi zm rfl B.len dh (ac (pv 4) ai)) ai))) (fun _ _=>rfl)) ⟨rfl,rfl,rfl,rfl⟩))) zt) i6,?_⟩
   intro D LK ls cs a c H2 b t hk G;refine⟨_,rfl,rfl,_,rfl,bR (fun e=>?_) (fun e=>bS D LK ls cs a c H2 b t)⟩;have e1:a=1:=by have:=of_decide_eq_true e;injection this
   refine⟨_,rfl,zf (by simp),fun T hT=>⟨LK,T,ls,[],rfl,rfl,SqL.of ((Same.new hT) _ _ t.hL),SqL.of za,_,rfl,?_⟩⟩;have l:=t.same (Same.new (o:=.lst []) hT);generalize upd H2 T (.lst [])=H3 at l
   by_cases v:ls=[]
   ·rw[decide_eq_true v]
    exact aB (bS D LK ls cs a c H3 b l)
   rw[decide_eq_false v];have I:=List.length_pos_iff.mpr v;refine aT ⟨_,rfl,D,rfl,.inl ⟨_,.inl l.hD⟩,?_⟩;refine⟨_,rfl,_,rfl,_,rfl,LK,_,rfl,.inl (SqL.of l.hL),p,_,rfl,l.hb,by rw[Ab];omega,by rw[Ab];omega,fun r H4 W X Y bB=>?_⟩;have C:=l.draw Y bB;rw[Ab] at X;obtain⟨j,rfl⟩:=Int.eq_ofNat_of_zero_le W;have hj:j<ls.length:=ω
   have J:ls[j]?=some ls[j]:=Af hj;obtain⟨n,v⟩:=p9 (ns:=cs) (hk e1 _ (An J));refine⟨LK,_,_,.int ls[j],rfl,rfl,SqL.of C.hL,ff (by rw[Ak,J];rfl),bj cs,Sum.inl ls[j],.int n,C.hD,rfl,?_,?_⟩
   ·show a6 ((cs.map fun p=>(p.1,V.int p.2)).map fun p=>((Sum.inl p.1:Key),p.2)) (Sum.inl ls[j])=_
    rw[wJ,v];rfl
   ·rw[Iy]
    exact bS D LK ls _ a c _ b (C.put b (C.gd.erase _))
  obtain⟨ua,iP,bM⟩:=R4;have R3:∃u,PSs (a0 aC P w K mg base ik "_law_turned" (ze zN) f M A outer s H E).nox (List.drop 3 (zL zN)) u/\
    ∀(D LK:Addr)(ls:List Int)(a:Int)(H2:Hp),H D=none->Tz H H2 p D LK ls ap ap->(∀q∈ls,q∈keysA ap)->ls.length<=56->
     u {nx:=fun _ H'=>Q .non H',rt:=Q} [some (.ref p),some (.ref d),some (.int 99),some (.ref D),some (.ref LK),some (.int a),none] H2:=by
   refine⟨_,zb (zP (PW.pt (fc (zk c5 (pv 5) zg (al _)) (fb (zk (wR aE) (pv 4) (zJ ai) (al _)))))
    (zb (zu (i:=6) gD.nd rfl (Or.inl rfl) (bO zG (pv 4) (zT U hr rfl ao (ac (pv 0) (ac (zi zm rfl B.len dh (ac (pv 4) ai)) ai))) (fun _ _=>rfl)))
    (zd (gh hu (pv 3) (pv 6) (zz jg (zz jg (fE hu (pv 3) (pv 6) (fun _ _=>rfl)) zg) (zT U hr rfl ao (ac (pv 0) (ac zg ai)))) rfl))) zt) iP,?_⟩
   intro D LK ls a H2 b t hk G;refine⟨_,rfl,rfl,_,rfl,bR (fun e=>?_) (fun e=>bM D LK ls ap a none H2 b t (fun _=>hk) G)⟩;have e0:a=0:=by have:=of_decide_eq_true e;injection this
   refine⟨_,rfl,zf (by simp),fun T hT=>⟨LK,T,ls,[],rfl,rfl,SqL.of ((Same.new hT) _ _ t.hL),SqL.of za,_,rfl,?_⟩⟩;have l:=t.same (Same.new (o:=.lst []) hT);generalize upd H2 T (.lst [])=H3 at l
   by_cases v:ls=[]
   ·rw[decide_eq_true v]
    exact aB (bM D LK ls ap a none H3 b l (fun _=>hk) G)
   rw[decide_eq_false v];have I:=List.length_pos_iff.mpr v;refine aT ⟨_,rfl,_,rfl,_,rfl,LK,_,rfl,.inl (SqL.of l.hL),p,_,rfl,l.hb,by rw[Ab];omega,by rw[Ab];omega,fun r H4 W X Y bB=>?_⟩;have C:=l.draw Y bB;rw[Ab] at X;obtain⟨j,rfl⟩:=Int.eq_ofNat_of_zero_le W;have hj:j<ls.length:=ω
   have J:ls[j]?=some ls[j]:=Af hj;have kc:=hk _ (An J);obtain⟨n,v⟩:=p9 (ns:=ap) kc;have g:DGet H4 D (.int ls[j]) (some (.int n)):=by
    have:=DGet.k (k:=Sum.inl ls[j]) C.hD;unfold bj at this
    rwa [wJ,v] at this
   refine⟨LK,_,_,.int ls[j],rfl,rfl,SqL.of C.hL,ff (by rw[Ak,J];rfl),?_⟩;refine⟨_,rfl,_,rfl,D,_,rfl,g,_,_,rfl,rfl,_,rfl,p,3,rfl,C.hb,ξ,ξ,fun r5 H5 _ _ N O=>⟨_,_,rfl,rfl,_,rfl,_,rfl,D,_,rfl,DPut.k (k:=Sum.inl ls[j]) (C.draw N O).hD (by rw[Cd];exact a7 ω),?_⟩⟩;rw[Ce];exact bM D LK ls _ a _ _ b ((C.draw N O).put b (C.gd.put (.inl kc))) (fun z=>ω) G
  obtain⟨rL,i5,fq⟩:=R3;refine⟨_,zb (zu (i:=3) gD.nd rfl (Or.inl rfl) (zq wS rfl cY fu (ac (pv 1) ai)))
   (zb (zu (i:=4) gD.nd rfl (Or.inl rfl) (zi t1 rfl B.sorted gj (ac (zq (tI rfl) rfl B.list er (ac (pv 3) ai)) ai)))
   (zb (zu (i:=5) gD.nd rfl (Or.inl rfl) (zT U hr rfl ao (ac (pv 0) (ac zg ai)))) i5)),?_⟩
  refine⟨_,rfl,d,bj ap,rfl,.inl hd,fun D b=>?_⟩;have s1:=Same.new (o:=.dK (bj ap)) b;have ek:((bj ap).map fun kv=>kV kv.1)=(keysA ap).map V.int:=by unfold bj keysA;rw[Am,Am,Am];rfl
  refine⟨_,rfl,D,bj ap,rfl,za,fun L hL=>?_⟩;rw[ek];have s2:=Same.new (o:=.lst ((keysA ap).map V.int)) hL;have kz:(keysA ap).length=ap.length:=Ab _;refine⟨L,keysA ap,rfl,SqL.of za,ω,fun LK qs hp _ kM=>?_⟩;have s3:=Same.new (o:=.lst (qs.map V.int)) kM;have S:=(s1.trans s2).trans s3;have kW:=hb.same S;refine⟨_,rfl,p,6,rfl,kW,ξ,ξ,fun a H5 _ _ N O=>?_⟩;have gW:LK≠p:=fun z=>by
   obtain⟨x,y,e,_⟩:=hb.same (s1.trans s2);rw[z,e] at kM;cases kM
  have t0:Tz H (upd (upd (upd H D (.dK (bj ap))) L (.lst ((keysA ap).map V.int))) LK (.lst (qs.map V.int))) p D LK qs ap ap:=
   ⟨zx.of S,kW,s3 _ _ (s2 _ _ za),za,gW,⟨nd,fun k hk=>.inl hk⟩⟩
  refine fq D LK _ a _ b (t0.draw N O) (fun q hq=>hp.mem_iff.mp hq) (by rw[hp.length_eq];omega)
end
end K63
end
section
namespace L2
open PySem PySem.Spec PyProof.Rows
def Cg{P p:Program}{w j:World}{h:Heap}{a:Addr}{vs:List (Key×Value)}(d:h.DictOf (zo P w) a vs)(hk:∀kv∈vs,∃i:Int,kv.1=Sum.inl i):h.DictOf (zo p j) a vs:=by
 obtain⟨o,es,ep,h1,h2,r,s,b,u⟩:=d;have A:∀{l:List DictEntry}{m:List (Key×Value)},Pairs (zo P w) l m->Pairs (zo p j) l m:=by
  intro l m q
  induction q with
  |nil=>exact .nil
  |cons g1 g2 _ ih=>exact .cons g1 g2 ih
 refine⟨o,es,ep,h1,h2,r,fun e he=>?_,A b,u⟩;obtain⟨k,c,x⟩:=s e he;obtain⟨i,f⟩:=List.mem_iff_getElem?.mp (Array.mem_toList_iff.mpr he);have g:i<vs.length:=by
  have:=(List.getElem?_eq_some_iff.mp f).1;rw[b.length] at this;exact this
 obtain⟨g1,_⟩:=b.get? (i:=i) (e:=e) (k:=vs[i].1) (v:=vs[i].2) f (Af g);obtain⟨z,y⟩:=hk vs[i] (A1 g);obtain rfl:k=vs[i].1:=(zo P w).inj _ _ _ c g1;refine⟨vs[i].1,c,?_⟩;rw[x,y]
 rfl
def Ch{ps:List (Int×V)}{vs:List (Key×Value)}(a:KV (ps.map fun p=>((Sum.inl p.1:Key),p.2)) vs):∀kv∈vs,∃i:Int,kv.1=Sum.inl i:=by
 induction ps generalizing vs with
 |nil=>cases a;exact fun kv h=>nomatch h
 |cons p ps ih=>
  cases a with
  |cons hq t=>
   intro kv hkv;rcases List.mem_cons.mp hkv with rfl|hkv
   ·exact⟨p.1,hq.1.symm⟩
   ·exact ih t kv hkv
def Ci{K:Type}[DecidableEq K]{A:Around}{s:Shared}{a:List (K×Value)}:∀{l:List (K×Value)},(∀kv∈l,∃y,valueAt a kv.1=some y/\SeqAt.EqAt A s kv.2 y true)->PySem.W.KeqHits A s a l true
 |[],_=>.nil
 |(k,v)::r,h=>by
  obtain⟨y,h1,h2⟩:=h (k,v) AB;exact PySem.W.KeqHits.hit (e:=true) (b:=true) h1 h2 (Ci fun kv hkv=>h kv (Ay _ hkv))
def IA{ns:List (Int×Int)}{k:Key}{x:V}(e:a6 ((ns.map fun p=>(p.1,V.int p.2)).map fun p=>((Sum.inl p.1:Key),p.2)) k=some x):∃n,x=V.int n:=by
 induction ns with
 |nil=>exact nomatch e
 |cons p ns ih=>
  by_cases g:(Sum.inl p.1:Key)=k
  ·rw[AE,AE,nM g] at e
   exact⟨p.2,(Al e).symm⟩
  ·rw[AE,AE,nO g] at e
   exact ih e
def IB{P:Program}{w:World}{A:Around}{H:Hp}{s:Shared}{a b:Addr}{ns:List (Int×Int)}(ok:HOk P w H s.heap)(E:Rd H a (dZ (ns.map fun p=>(p.1,V.int p.2))))(hb:Rd H b (dZ (ns.map fun p=>(p.1,V.int p.2)))):(a==AU)=false/\(b==AU)=false/\∃va d,(∀f c,s.heap.DictOf (zo f c) a va)/\(∀f c,s.heap.DictOf (zo f c) b d)/\va.length=d.length/\PySem.W.KeqHits A s d va true:=by
 obtain⟨_,o,va,g,j⟩:=iE ok E;obtain⟨_,q,d,h,r⟩:=iE ok hb;refine⟨o,q,va,d,fun f c=>Cg j (Ch g),fun f c=>Cg r (Ch h),?_,Ci fun kv hkv=>?_⟩
 ·have h1:=g.length
  have h2:=h.length;omega
 obtain⟨i,u⟩:=List.mem_iff_getElem?.mp hkv;obtain⟨_,_,_,_,_,_,_,_,v⟩:=j;have e1:valueAt va kv.1=some kv.2:=valueAt_of_get v (i:=i) u;have e:=g.val kv.1;have l:=h.val kv.1;rw[e1] at e;cases ex:a6 ((ns.map fun p=>(p.1,V.int p.2)).map fun p=>((Sum.inl p.1:Key),p.2)) kv.1 with
 |none=>rw[ex] at e;exact(show False from e).elim
 |some x=>
  rw[ex] at e l;obtain⟨n,rfl⟩:=IA ex;obtain⟨y,e2,z⟩:=l.some_of;obtain⟨t,C⟩:=(show ∃t,kv.2=Value.int n t from e);obtain⟨t',D⟩:=(show ∃t,y=Value.int n t from z);refine⟨y,e2,?_⟩;rw[C,D];have:=SeqAt.EqAt.int_int (A:=A) (s:=s) n t n t'
  simpa using this
def IC{P:Program}{w:World}{A:Around}{H:Hp}{s:Shared}{a b:Addr}{ns:List (Int×Int)}(hu:A.units+64<cLine)(ok:HOk P w H s.heap)(o:Rd H a (dZ (ns.map fun p=>(p.1,V.int p.2))))(hb:Rd H b (dZ (ns.map fun p=>(p.1,V.int p.2)))):SeqAt.EqAt A s (.ref a) (.ref b) true:=by
 intro prog d E Q h;obtain⟨e,f,va,q,g,i,j,l⟩:=IB (A:=A.in1) ok o hb;unfold eqBool
 try with_reducible refine AI ?_
 show wpAny _ _ (if(Value.ref a==Value.ref b)=true then _ else _) Q E s
 by_cases c:(Value.ref a==Value.ref b)=true
 ·rw[if_pos c]
  exact Aa (wpAny_rule (Ac h))
 ·rw[if_neg c]
  refine Aa (PySem.W.keq_eq e f (g prog d) (i prog d) ω (fun _=>l) ?_);rw[j,beq_self_eq_true,Bool.true_and];exact wpAny_truthy_bool h
inductive SV(K:Ae)(H:Hp):V->V->Prop where
 |lt {l m:Addr} {as bs:List Addr} {pss:Ξ} (hl:SqL K H l (as.map V.ref)) (hp:Tps H as pss) (hm:SqL K H m (bs.map V.ref)) (hq:Tps H bs pss):SV K H (.ref l) (.ref m)
 |dz {a b:Addr} {ns:List (Int×Int)} (ha:Rd H a (dZ (ns.map fun p=>(p.1,V.int p.2)))) (hb:Rd H b (dZ (ns.map fun p=>(p.1,V.int p.2)))):SV K H (.ref a) (.ref b)
 |dt {a b:Addr} {kvs:List (List Key×V)} {pss:Ξ} {ns:List Int} (ha:Rd H a (.dT kvs)) (hb:Rd H b (.dT kvs)) (hp:kvs.map (·.1)=pss.map (·.map Sum.inl)) (hv:kvs.map (·.2)=ns.map V.int):SV K H (.ref a) (.ref b)
section
variable{X:Cx}
def SV.eqAt{aa:Ψ}{σ:St}{H:Hp}{s:Shared}{x y:V}{u v:Value}(hu:X.A.units+128<cLine)(I:Inv X aa σ H s)(h:SV X.K H x y)(a:RelV x u)(b:RelV y v):SeqAt.EqAt X.A.in1 s u v true:=by
 cases h with
 |@lt l m as bs pss hl hp hm hq=>
  cases a;cases b;have hs:=lM pss;have:=SeqAt.eqAt_reads _ _ X.A.in1 s _ _ _ _ (kg I hl hp) (kg I hm hq) (SeqAt.canLay_of_shaped hs) (SeqAt.canLay_of_shaped hs) (SeqAt.room_of_shaped hs (by show X.A.units+1+64<cLine;omega));rw[<-SeqAt.same_eq_eqv _ _ (SeqAt.noMix_of_shape (.list (.tuples .int)) rfl _ _ (kh _) (kh _)),show same (.list (pss.map fun ps=>PyData.tuple (ps.map AV))) (.list (pss.map fun ps=>PyData.tuple (ps.map AV)))=true from by unfold same;rw[n3 pss pss];exact decide_eq_true rfl] at this;exact this
 |dz ha hb=>
  cases a;cases b;exact IC (by show X.A.units+1+64<cLine;omega) I.hok ha hb
 |dt ha hb hp hv=>
  cases a;cases b;exact Hz (by show X.A.units+1+64<cLine;omega) I.hok ha hb hp hv
def ID{aa:Ψ}{σ:St}{H:Hp}{s:Shared}(hu:X.A.units+128<cLine)(I:Inv X aa σ H s):∀{xs ys:List V}{us vs:List Value},Paired (SV X.K H) xs ys->Vals xs us->Vals ys vs->us.length=vs.length/\∀(j:Nat)(h1:j<us.length)(h2:j<vs.length),SeqAt.EqAt X.A.in1 s us[j] vs[j] true:=by
 intro xs ys us vs z
 induction z generalizing us vs with
 |nil=>intro a b;cases a;cases b;exact⟨rfl,fun j h=>absurd h (Nat.not_lt_zero j)⟩
 |cons hh t ih=>
  intro a b;cases a with
  |cons ra ta=>
   cases b with
   |cons rb tb=>
    obtain⟨g1,g2⟩:=ih ta tb;refine⟨by rw[Aw,Aw,g1],fun j h1 h2=>?_⟩;cases j with
    |zero=>exact hh.eqAt hu I ra rb
    |succ j=>exact g2 j (by simpa using h1) (by simpa using h2)
def qp(hu:X.A.units+128<cLine):bw X (Bg .NotEq) (fun x y H Q=>∃(L M:Addr)(xs ys:List V),x=.ref L/\y=.ref M/\SqL X.K H L xs/\SqL X.K H M ys/\Paired (SV X.K H) xs ys/\Q (.bl false) H):=by
 intro aa s σ H x y v u Q I a b h;obtain⟨L,M,xs,ys,rfl,rfl,c,d,hp,q⟩:=h;cases a;cases b;obtain⟨l,f,g,_⟩:=I.list c;obtain⟨o,i,p2,_⟩:=I.list d;obtain⟨g1,g2⟩:=ID hu I hp f i;refine SeqAt.RcNeAt.lists (e:=fun _=>true) g.isList p2.isList (by simpa using g1) ω (fun j h1 h2=>?_) X.prog X.w X.xe _ ⟨.bl _,H,I,rfl,?_⟩
 ·simpa using g2 j (by simpa using h1) (by simpa using h2)
 ·rw[List.all_eq_true.mpr (fun _ _=>rfl)];exact q
end
def wU(K:Ae):R2:=fun x y H Q=>∃a z,x=.ref a/\y=.str z/\((∃ys,SqL K H a ys)\/∃kvs,Rd H a (.dT kvs))/\Q (.bl false) H
section
variable{X:Cx}
def Cj(hu:X.A.units+64<cLine):bw X (Bg .Eq) (wU X.K):=by
 intro aa s σ H x y v u Q I b c h;obtain⟨a,z,rfl,rfl,hk,q⟩:=h;cases b;obtain⟨t,rfl⟩:=c;have fin:EP X aa σ Q (.bool false) s:=⟨.bl false,H,I,rfl,q⟩;rcases hk with ⟨ys,d⟩|⟨kvs,hd⟩
 ·obtain⟨j,l,e,_⟩:=I.list d
  exact SeqAt.RcAt.list_str z t e.isList ω _ _ _ _ fin
 ·obtain⟨_,_,xs,_,dd⟩:=lj I.hok hd
  have hT:s.TypeIs (.ref a) "dict":=dd.typeIs;show wpAny _ _ (richCompare .Eq (.ref a) (.str z t)) _ _ _;refine SeqAt.rc_eq_decline_or (k:=false) hT (typeIs_str s z t) ξ PySem.F.sub_str_dict PySem.F.slot_dict_eq PySem.F.slot_str_eq_refl (fun i hq=>?_) (fun i hq=>?_) (fun _ hq=>wpAny_of_eq (rfl:isSame (.ref a) (.str z t)=pure false) hq) (.inr ω) fin
  ·refine A0 PySem.F.slot_dict_eq hT PySem.F.entry_dict_eq ?_ (PySem.F.args_dict_eq_2 _ _)
   unfold Builtin.«dict.__eq__»
   wp_delta
   refine Aa ?_;unfold Builtin.Dict.dictSlotArgs;refine Aa (wpAny_notOrdered_dict hT ?_);refine Aa (show wpAny _ _ (pure (Value.ref a,[Value.str z t])) _ _ _ from Ac ?_);refine Ac ?_;dsimp only;refine Aa (wpAny_isInstance (typeIs_str s z t) PySem.F.sub_str_dict ?_);simp only[Bool.not_false,if_true];refine Aa (wpAny_rule ?_);exact Ac ⟨_,rfl,hq⟩
  ·refine A0 PySem.F.slot_str_eq_refl (typeIs_str s z t) PySem.F.entry_str_eq ?_ (PySem.F.args_str_eq_2 _ _)
   unfold Builtin.«str.__eq__»
   wp_delta
   refine Aa (show wpAny _ _ (pure (Value.str z t,z,[Value.ref a])) _ _ _ from Ac ?_);dsimp only;obtain⟨o,es,ep,f,p,g,_⟩:=dd;refine Aa (m:=asStr? (Value.ref a)) ?_;unfold asStr?;dsimp only;refine Aa (wpAny_load f ?_);rw[g];refine Ac ?_;dsimp only;refine Aa (wpAny_rule ?_);exact Ac ⟨_,rfl,hq⟩
def zhx:V->List V->Hp->VK->Prop:=fun x vs H Q=>∃d kvs,x=.ref d/\vs=[]/\H d=some (.dT kvs)/\Q .non (upd H d (.dT []))
def eV:nI X "dict.clear" zhx:=by
 intro aa s σ H x vs v us Q I g i h;obtain⟨d,kvs,rfl,rfl,hd,q⟩:=h;cases g;obtain rfl:=i.zero;obtain⟨z,hs,ys,e,o,es,ep,h1,h2,c,l,r⟩:=(show zC X.prog X.w H s.heap d (.dT kvs) from I.hok d _ hd);have hsz:es.size<=sizeLine:=by
  have:=congrArg List.length l;rw[Ab,<-A7 e] at this;simp at this;omega
 have hT:s.TypeIs (.ref d) "dict":=⟨o,h1,h2.1⟩;have p:MeetsIn X.prog X.w (Builtin.«dict.clear» ⟨[.ref d],[]⟩) (fun _ R s=>s.heap.get? d=some o/\∀h',(∃o' b,h'.get? d=some o'/\o'.ExactDict/\o'.data=.dict #[] b)->AR d s.heap h'->R (.ok (.ret .none)) {s with heap:=h'}):=
  .of_wp fun A R s ⟨a,h⟩=>by
   unfold Builtin.«dict.clear»;refine Aa ?_;unfold Builtin.Dict.noArgs;refine Aa (wpAny_notOrdered_dict (show s.TypeIs (.ref d) "dict" from⟨o,a,h2.1⟩) ?_);show wpAny _ _ (pure d) _ _ s;refine Ac ?_;refine Aa (AH a c ?_);refine Aa ?_;unfold bearsInstanceDictMark;refine Aa (wpAny_load a (Ac ?_));refine Aa (wpAny_updateDictKeys (hz:=hsz) a c ?_);have f:∃o' b,(s.heap.update d (Obj.mapDictKeys fun _=>#[])).get? d=some o'/\o'.ExactDict/\o'.data=.dict #[] b:=
    ⟨_,ep+1,Heap.get?_update_self _ a (Obj.isFreed_of_dict (Obj.data_mapDictKeys c _)),h2.mapDictKeys _,Obj.data_mapDictKeys c _⟩
   split
   ·exact Aa (wpAny_letGo (Ac ⟨.none,rfl,h _ f (AS ..)⟩))
   ·exact Aa (Ac (Ac ⟨.none,rfl,h _ f (AS ..)⟩))
 refine call_meetsIn PySem.F.slot_dict_clear hT PySem.F.entry_dict_clear (PySem.F.args_dict_clear_1 _) p ⟨h1,fun h' ⟨o',b,e1,e2,e3⟩ j=>?_⟩;exact⟨.non,_,ll (ob:=.dT []) I (by rw[hd];exact True.intro) j ⟨o',e1⟩ ⟨AK _,hs,[],.nil,o',#[],b,e1,e2,e3,rfl,List.nodup_nil⟩,rfl,q⟩
def IE(to:TE):TE:=fun σ H Q=>to σ H fun x H1=>zhx x [] H1 Q
def Ck{o:Expr}{to:TE}{aU aA:Pos}(i:PE X o to)(j:attributeBase o "clear" X.env (eval o X.env)=eval o X.env:=by rfl)(l:(aU.endLine==aA.line)=true:=by rfl):PE X (.Call (.Attribute o "clear" aU) [] [] aA) (IE to):=by
 intro aa s σ H Q I h;refine wpAny_Call_method0_late j l (aJ (i aa s σ H _ I h) fun v b ⟨x,H1,I1,f,c⟩=>?_);have g:=c;obtain⟨d,kvs,rfl,_,hd,_⟩:=c;cases f;obtain⟨_,_,_,_,ob,_,_,e,ex,_⟩:=(show zC X.prog X.w H1 b.heap d (.dT kvs) from I1.hok d _ hd);exact⟨"dict","dict.clear",PySem.F.plainAttrs_dict,PySem.F.slot_dict_clear,PySem.F.type_dict_clear,⟨ob,e,ex.1⟩,(fun a z=>by cases z;exact⟨ob,e,ex.2.1⟩),Calls.callWith_builtin rfl (PySem.evalArgs_none (eV aa b σ H1 (.ref d) [] (.ref d) [] Q I1 rfl .nil g))⟩
end
def IF{env env0:Env}{scope a:Scope}(b:env.scope=relabel a env0)(h:scope.names.all (fun y=>decide (y.2≠.free)|| decide (a.names.lookup y.1=some .cell)|| decide (a.names.lookup y.1=some .free))=true):∀y∈scope.names,y.2=.free->env.kindOf y.1=some .cell\/env.kindOf y.1=some .free:=by
 intro y hy e;have:=List.all_eq_true.mp h y hy;simp only[Bool.or_eq_true,decide_eq_true_eq] at this;have key:a.names.lookup y.1=some .free\/a.names.lookup y.1=some .cell:=by
  rcases this with (q|q)|q
  ·exact absurd e q
  ·exact .inr q
  ·exact .inl q
 have:=sN (scope:=a) (env:=env0) key;unfold Env.kindOf;rw[b];rcases this with q|q
 ·exact .inr q
 ·exact .inl q
end L2
end
section
namespace K63
open K1
open PySem L2 STb
abbrev ir:Stmt:=top 43
abbrev wV:Stmt:=top 44
abbrev mN:TT:=jr (da (eu fun i j=>.bl (decide (j<i))) (iF (aw 1) (aw 0)) (iF (aw 1) (aw 2)))
section
variable{P:Program}{w:World}{K:Ae}{mg:Str->Option Value}{base:Heap}
def IG{H2:Hp}{L d a D:Addr}{as:List Addr}{e:Ξ}{p:List Int}{n:Int}{cs:Wd}{Q:VK}(F:SqL K H2 L (as.map V.ref))(y:Tps H2 as e)(hz:e.length<=5)(hd:H2 d=some (.dT (aS cs)))(G:Tp H2 a p)(H:wv cs p=some n)(hr:∀r∈e,∃m,wv cs r=some m)(A:H2 D=none)(k:∀(H3:Hp)(ys:List V),Same H2 H3->H3 D=some (.lst ys)->(ys=[]↔∀r∈e,(wv cs r).getD 0<=n)->Q (.ref D) H3):bW (di K L) (cg 0) mN (aw 0) [none,some (.ref d),some (.ref a)] H2 D Q:=by
 have I:=y.length;refine zI (xs:=as.map V.ref) (fun j σ ys H3=>∃(v:Option V),σ=[v,some (.ref d),some (.ref a)]/\Same H2 H3/\H3 D=some (.lst ys)/\(ys=[]↔∀r∈e.take j,(wv cs r).getD 0<=n)) ?_ ?_ ?_ ?_
 ·exact⟨none,rfl,Same.new A,za,by simp⟩
 ·rintro j σ ys H3 ⟨v,rfl,c,f,_⟩
  exact c.seq F
 ·rintro j σ ys H3 x hx s hy ⟨v,rfl,c,f,he⟩
  obtain⟨o,C,rfl⟩:=zV hx;obtain⟨r,u,E⟩:=y.get C;obtain⟨m,hm⟩:=hr r (An u);have q:(as.map V.ref).length<=sizeLine:=by rw[Ab];exact zf ω
  have g1:DGet H3 d (.ref o) (some (.int m)):=by
   have:=DGet.t (k:=r.map Sum.inl) (b:=o) (c _ _ hd) (by rw[Am];exact c.tp E)
   rwa [ia,hm] at this
  have g2:DGet H3 d (.ref a) (some (.int n)):=by
   have:=DGet.t (k:=p.map Sum.inl) (b:=a) (c _ _ hd) (by rw[Am];exact c.tp G)
   rwa [ia,H] at this
  have w:e.take (j+1)=e.take j++[r]:=AX u;refine⟨_,rfl,_,rfl,d,_,rfl,g1,_,rfl,_,rfl,d,_,rfl,g2,_,_,rfl,rfl,_,rfl,?_⟩
  by_cases g:n<m
  ·rw[decide_eq_true g]
   refine aT ⟨_,rfl,bb q s hy f ⟨_,rfl,c.then A,za,?_⟩⟩;constructor
   ·intro z;simp at z
   ·intro z
    have:=z r (by rw[w];simp);rw[hm] at this;have:m<=n:=this;omega
  ·rw[decide_eq_false g]
   refine aB (ez s hy ⟨_,rfl,c,f,?_⟩);rw[he,w];constructor
   ·intro z i l
    rcases List.mem_append.mp l with h|h
    ·exact z i h
    ·rw[List.mem_singleton.mp h,hm]
     show m<=n;omega
   ·intro z i l
    exact z i (List.mem_append_left _ l)
 ·rintro σ ys H3 ⟨v,rfl,c,f,he⟩
  rw[Ax (by rw[Ab];omega)] at he;exact k H3 ys c f he
def Cm(K:Ae):Sp:=fun vs H Q _=>∃l d as a cs,vs=[.ref l,.ref d]/\SqL K H l (as.map V.ref)/\Tps H as a/\a.length<=56/\(∀p∈a,p.length<=5)/\(∀p∈a,∀r∈rims p,r∈a)/\H d=some (.dT (aS cs))/\(∀p∈a,∃n,wv cs p=some n)/\
 ∀b H',(b=true↔¬∀p∈a,bN cs p)->Same H H'->Q (.bl b) H'
def Cn:zw ["known","worths","piece"] ["known","worths"] (ze ir):=⟨rfl,rfl,rfl,δ,rfl,δ,δ⟩
def IH{f:Addr}{fd:FuncData}(F:Fun K "_law_falls" "_law_falls" ir f fd)(B:Bt mg)(Cr:Cl P w K mg base aC "_law_rims" ["piece"] 1 ml):FnOk P w K mg base aC 2 f fd ["known","worths"] (Cm K):=by
 refine F.ok Cn (fun vs H Q E h=>?_) (fun aq A outer s H vs Q E hr h=>?_)
 ·obtain⟨l,d,as,o,cs,rfl,_⟩:=h;rfl
 ·obtain⟨l,d,as,o,cs,rfl,u,y,bf,G,W,hd,I,k⟩:=h
  have hu:=ey hr;refine⟨_,zb (dF A8 rfl (zA (pv 0)) (zr (i:=2) Cn.nd rfl (Or.inr rfl))
    (zd (zP (zk lf (zi zm rfl B.len dh (ac (zy ["known","worths","piece"] ["rim","worths","piece"] [none,some 1,some 2] (zA (zT Cr hr rfl ao (ac (pv 2) ai))) (fun g C s₀ H₀ ex=>zr (i:=0) (cK ["rim","worths","piece"]) rfl (Or.inl rfl))
     (fun g C s₀ H₀ ex=>lC (zk lf (fE hu (pv 1) (pv 0) (fun _ _=>rfl)) (fE hu (pv 1) (pv 2) (fun _ _=>rfl)) (al _))) (fun g C s₀ H₀ ex=>pv 0) (hfr:=b9 (ze ir) δ) (tc:=mN) (te:=aw 0)) ai)) zg (al _)) (zd (zn zY)) zt)))
   (zd (zn zY)),?_⟩
  refine⟨_,rfl,l,rfl,⟨_,u⟩,gO (K:=K) (a:=l) (xs:=as.map V.ref) (fun i σ H2=>∃(v:Option V),σ=[some (.ref l),some (.ref d),v]/\Same H H2/\∀p∈o.take i,bN cs p)
   ⟨none,rfl,Same.refl H,by simp⟩ (fun i σ H2 _ ⟨_,_,c,_⟩=>c.seq u) ?_ ?_⟩
  ·rintro i x σ H2 hx ⟨v,rfl,c,b⟩
   obtain⟨a,X,rfl⟩:=zV hx;obtain⟨p,ep,hp⟩:=y.get X;have hm:=An ep;obtain⟨n,J⟩:=I p hm;refine⟨_,rfl,a,p,rfl,c.tp hp,G p hm,fun L H3 bs e hL j M=>⟨L,rfl,⟨_,SqL.of j⟩,fun D N=>zF (IG (SqL.of j) M (AF (pw p) (G p hm)) (e _ _ (c _ _ hd)) (e.tp (c.tp hp)) J (fun r O=>I r (W p hm r O)) N fun Y ys T U he=>⟨D,ys,rfl,.inl (SqL.of U),_,_,rfl,rfl,_,rfl,?_⟩)⟩⟩;have S:=(c.trans e).trans T;have ab:bN cs p↔ys=[]:=by
    rw[he];unfold bN;rw[J];exact Iff.rfl
   by_cases hy:ys=[]
   ·rw[hy,decide_eq_false (by simp)]
    refine aB ⟨_,rfl,S,fun q hq=>?_⟩;rw[AX ep] at hq;rcases List.mem_append.mp hq with h|h
    ·exact b q h
    ·rw[List.mem_singleton.mp h];exact ab.mpr hy
   ·have:0<ys.length:=List.length_pos_iff.mpr hy
    rw[decide_eq_true ω];exact aT (k true Y ⟨fun _ z=>hy (ab.mp (z p hm)),fun _=>rfl⟩ S)
  ·rintro σ H2 ⟨v,rfl,c,b⟩
   have aM:=y.length;rw[Ax (by rw[Ab];omega)] at b;exact k false H2 ⟨(fun z=>by cases z),fun z=>absurd b z⟩ c
end
section
variable{P:Program}{w:World}{K:Ae}{mg:Str->Option Value}{base:Heap}{f fw fO fN fS Pt:Addr}{fd fg:FuncData}
def Co(K:Ae)(Pt:Addr):Sp:=fun vs H Q E=>(∃l d as pss cs,vs=[.int 0,.ref l,.ref d]/\WO K H l d as pss cs/\Tab H Pt eB qO/\ ((dy (canon pss) cs/\∀D H' bs os,zH H H'->Tab H' Pt eB qO->H D=none->H' D=some (.lst (bs.map V.ref))->Tps H' bs os->ic cs (canon pss) os->Q (.ref D) H') \/
   (¬dy (canon pss) cs/\∀H',Same H H'->Q (.str "order") H'))) \/
 (∃l d as pss ns,vs=[.int 1,.ref l,.ref d]/\WA K H l d as pss ns/\
  (((ns.map (·.1)).Perm (bT (canon pss))/\∀D H',Same H H'->H D=none->H' D=some (.dT (aS (cX ns (canon pss))))->Q (.ref D) H') \/
   (¬(ns.map (·.1)).Perm (bT (canon pss))/\∀H',Same H H'->Q (.str "order") H')))
def mQ:zw ["way","web","worths","told","e"] ["way","web","worths"] (ze wV):=⟨rfl,rfl,rfl,δ,rfl,δ,δ⟩
def II(F:Fun K "_law_asked" "_law_asked" wV f fd)(C:mg "SeamError"=some (.ref fS))(J:Cl P w K mg base (fm P w) "order_by" ["web","worths"] 9 (BN K Pt fO))(L:Cl P w K mg base (fm P w) "worths_by_points" ["web","ages"] 10 (BU K fO))(Fw:Fun K "_law_which" "_law_which" p8 fw fg)(G:Binds K fg ["e"] [])(I:mg "_law_which"=some (.ref fw))(M:mm P w K mg base 1 fw fg ["e"] (BJ fO fN))(S:hY K fO fS):FnOk P w K mg base aC 11 f fd ["way","web","worths"] (Co K Pt):=by
 refine F.ok mQ (fun vs H Q E h=>?_) (fun N A outer s H vs Q E hr h=>?_)
 ·rcases h with ⟨l,d,as,pss,cs,rfl,_⟩|⟨l,d,as,pss,ns,rfl,_⟩<;>rfl
 ·have z:Room 1 _:=hr.mono ξ
  refine⟨_,zb (zu (i:=3) mQ.nd rfl (Or.inl rfl) CO)
   (zb (G0 (ie:=4) (S:=fS) rfl mQ.nd rfl rfl rfl rfl rfl C
    (fun aa EB=>zd (zu (i:=3) mQ.nd rfl (Or.inl rfl) (CS (zk c5 (pv 0) zg (al _)) (zT J hr rfl (Bu rfl) (ac (pv 1) (ac (pv 2) ai))) (zT L hr rfl (Bu rfl) (ac (pv 1) (ac (pv 2) ai))))))
    (fun aa x=>zd (zu (i:=3) mQ.nd rfl (Or.inl rfl) (G8 (E:=E0) M (z.mark _) rfl I Fw.kp G .nil (ac (pv 4) ai)))))
   (zd (zn (pv 3)))),?_⟩
  rcases h with ⟨l,d,as,pss,cs,rfl,W,tb,h⟩|⟨l,d,as,pss,ns,rfl,W,h⟩
  ·refine⟨_,rfl,rfl,_,rfl,aT ⟨_,rfl,_,rfl,l,d,as,pss,cs,rfl,W,tb,?_⟩⟩
   rcases h with ⟨j,k⟩|⟨j,k⟩
   ·exact .inl ⟨j,fun D H' bs os g v o p to y=>⟨_,rfl,k D H' bs os g v o p to y⟩⟩
   ·refine .inr ⟨j,fun H1 g x hx=>⟨x,fO,rfl,rfl,S,fun q r=>?_⟩⟩
    match q,r with
    |[a,b,c,d,e],_=>exact⟨_,rfl,x,rfl,.inl ⟨za,fun H2 u=>⟨_,rfl,k H2 (g.trans ((Same.new hx).trans u))⟩⟩⟩
  ·refine⟨_,rfl,rfl,_,rfl,aB ⟨_,rfl,_,rfl,l,d,as,pss,ns,rfl,W,?_⟩⟩
   rcases h with ⟨j,k⟩|⟨j,k⟩
   ·exact .inl ⟨j,fun D H' g o p=>⟨_,rfl,k D H' g o p⟩⟩
   ·refine .inr ⟨j,fun H1 g x hx=>⟨x,fO,rfl,rfl,S,fun q r=>?_⟩⟩
    match q,r with
    |[a,b,c,d,e],_=>exact⟨_,rfl,x,rfl,.inl ⟨za,fun H2 u=>⟨_,rfl,k H2 (g.trans ((Same.new hx).trans u))⟩⟩⟩
end
end K63
end
section
namespace L2
open PySem PySem.Spec PyProof.Rows
def zH.then{H H1:Hp}{a:Addr}{o:HO}(e:zH H H1)(h:H a=none):zH H (upd H1 a o):=fun b u n q=>by rw[zh (zl q h)];exact e b u n q
def zH.list{H H':Hp}(e:zH H H'){a:Addr}{xs:List V}(h:H a=some (.lst xs)):H' a=some (.lst xs):=e _ _ (fun _ z=>nomatch z) h
def zH.dT{H H':Hp}(e:zH H H'){a:Addr}{xs:List (List Key×V)}(h:H a=some (.dT xs)):H' a=some (.dT xs):=e _ _ (fun _ z=>nomatch z) h
def zH.dK{H H':Hp}(e:zH H H'){a:Addr}{xs:List (Key×V)}(h:H a=some (.dK xs)):H' a=some (.dK xs):=e _ _ (fun _ z=>nomatch z) h
end L2
namespace K63
open K1
open PySem L2 STb
abbrev qr:Stmt:=top 45
def wW(cs:Wd):(aS cs).map (·.2)=(cs.map (·.2)).map V.int:=by unfold aS;rw[Am,Am];rfl
section
variable{P:Program}{w:World}{K:Ae}{mg:Str->Option Value}{base:Heap}{f Pt:Addr}{fd:FuncData}
def wX(cs:Wd)(a dl:Ξ):Prop:=∀os,ic cs a os->os=dl
def Tab.put{H:Hp}{P a:Addr}{pos:Pos}{q:Str}{o:HO}{xs:List V}(t:Tab H P pos q)(h:H a=some (.lst xs)):Tab (L2.upd H a o) P pos q:=by
 have np:P≠a:=fun z=>by subst z;rcases t with e|⟨_,e,_⟩<;>(rw[h] at e;cases e)
 rcases t with e|⟨c,e,b,vs,d,e2,r⟩
 ·exact .inl (by rw[zh np];exact e)
 ·exact .inr ⟨c,by rw[zh np];exact e,b,vs,d,by rw[zh (fun z=>by subst z;rw[h] at e2;cases e2)];exact e2,r⟩
def Tab.put2{H:Hp}{P a:Addr}{pos:Pos}{q:Str}{o:HO}{xs:List (List Key×V)}(t:Tab H P pos q)(h:H a=some (.dT xs)):Tab (L2.upd H a o) P pos q:=by
 have np:P≠a:=fun z=>by subst z;rcases t with e|⟨_,e,_⟩<;>(rw[h] at e;cases e)
 rcases t with e|⟨c,e,b,vs,d,e2,r⟩
 ·exact .inl (by rw[zh np];exact e)
 ·exact .inr ⟨c,by rw[zh np];exact e,b,vs,d,by rw[zh (fun z=>by subst z;rw[h] at e2;cases e2)];exact e2,r⟩
def mR(K:Ae)(P:Program)(w:World)(Pt:Addr):Sp:=fun vs H Q _=>Tab H Pt eB qO/\(∀H',zH H H'->Tab H' Pt eB qO->Q (.bl true) H')/\
 ((∃l d u as us pss cs dl,vs=[.int 0,.ref l,.ref d,.ref u]/\WO K H l d as pss cs/\((cs.map (·.1)).map (Aq (intKind P w))).Nodup/\dy (canon pss) cs/\H u=some (.lst (us.map V.ref))/\Tps H us dl/\wX cs (canon pss) dl) \/
  (∃l d as pss cs,vs=[.int 0,.ref l,.ref d,.str "order"]/\WO K H l d as pss cs/\((cs.map (·.1)).map (Aq (intKind P w))).Nodup/\¬dy (canon pss) cs) \/
  (∃l d u as pss ns,vs=[.int 1,.ref l,.ref d,.ref u]/\WA K H l d as pss ns/\(ns.map (·.1)).Perm (bT (canon pss))/\H u=some (.dT (aS (cX ns (canon pss))))) \/
  (∃l d as pss ns,vs=[.int 1,.ref l,.ref d,.str "order"]/\WA K H l d as pss ns/\¬(ns.map (·.1)).Perm (bT (canon pss))))
abbrev IJ:List Str:=["way","web","worths","due","handed","turn","found"]
def eX:zw IJ ["way","web","worths","due"] (ze qr):=⟨rfl,rfl,rfl,δ,rfl,δ,δ⟩
def IK(F:Fun K "_law_right" "_law_right" qr f fd)(B:Bt mg)(X:mg "dict"=none)(Ca:Cl P w K mg base aC "_law_asked" ["way","web","worths"] 11 (Co K Pt)):FnOk P w K mg base aC 12 f fd ["way","web","worths","due"] (mR K P w Pt):=by
 refine F.ok eX (fun vs H Q E h=>?_) (fun aq A outer s H vs Q E hr h=>?_)
 ·rcases h with ⟨_,_,⟨l,d,u,as,us,pss,cs,dl,rfl,_⟩|⟨l,d,as,pss,cs,rfl,_⟩|⟨l,d,u,as,pss,ns,rfl,_⟩|⟨l,d,as,pss,ns,rfl,_⟩⟩<;>rfl
 ·obtain⟨tb,k,h⟩:=h
  have hu:=ey hr;have aE:=hr.units;have dv:(A.deeper (PyProof.Rows.envOfC "_law_right" (ze qr) s⁻¹ f aq)).units+128<cLine:=by have:=hr.un;omega
  rcases h with ⟨l,d,u,as,us,pss,cs,dl,rfl,W,hh,hg,hU,hT,hO⟩|⟨l,d,as,pss,cs,rfl,W,hh,hg⟩|⟨l,d,u,as,pss,ns,rfl,W,hg,hU⟩|⟨l,d,as,pss,ns,rfl,W,hg⟩
  ·refine⟨_,zb (zu (i:=4) eX.nd rfl (Or.inl rfl) (zJ (ac (zq nJ rfl B.list er (ac (pv 1) ai)) (ac (zq wn rfl X fu (ac (pv 2) ai)) ai))))
    (zb (dF A8 rfl (iC rfl B.range (ac zg ai)) (zr (i:=5) eX.nd rfl (Or.inl rfl))
     (zb (zu (i:=6) eX.nd rfl (Or.inl rfl) (zT Ca hr rfl ao (ac (pv 0) (ac (bO zG (pv 4) zg (fun _ _=>rfl)) (ac (bO zG (pv 4) zg (fun _ _=>rfl)) ai)))))
     (zb (zP (PW.pt (gf (zk (n7 aE) (pv 6) (pv 3) (al _)) (f_ (zk (qp dv) (pv 4) (zJ (ac (pv 1) (ac (pv 2) ai))) (al _))))) (zd (zn zY)) zt)
     (zb (zP (zk (Cj aE) (pv 3) pe_str (al _)) (zd (zn zY)) zt)
     (zb (zP (PW.pt (gf (PW.pt (fc (zk c5 (pv 0) zg (al _)) (fb (dY (et (zi pP rfl B.isinstance zE (ac (pv 6) (ac (gH (v:=.ty "list") rfl B.list er rfl) ai)))))))) (f_ (PW.pt (fc (zk c5 (pv 0) zg (al _)) (fb (dY (et (zi p0 rfl B.isinstance zE (ac (pv 6) (ac (gH (v:=.ty "dict") rfl X fu rfl) ai))))))))))) (zd (zn zY)) zt)
     (zd (fy (xN PySem.F.plainAttrs_list PySem.F.slot_list_clear PySem.F.type_list_clear xO (pv 6)))))))))
    (zd (zn zY))),?_⟩
   refine⟨_,rfl,l,_,rfl,.inl W.hl,fun e Y=>?_⟩;have J:=Same.new (o:=.lst (as.map V.ref)) Y;refine⟨_,rfl,d,aS cs,zM cs,rfl,.inl (J _ _ W.hd),gu cs,hh,fun g eD=>?_⟩;have L:=Same.new (o:=.dT (aS cs)) eD;refine⟨zf (by simp),fun p ix=>?_⟩;have y:=Same.new (o:=.lst [.ref e,.ref g]) ix;have S1:=(J.trans L).trans y;have C:=y _ _ (L _ _ (za (H:=H) (a:=e) (o:=.lst (as.map V.ref))));have D:=y _ _ (za (H:=L2.upd H e (.lst (as.map V.ref))) (a:=g) (o:=.dT (aS cs)));have M:=za (H:=L2.upd (L2.upd H e (.lst (as.map V.ref))) g (.dT (aS cs))) (a:=p) (o:=.lst [.ref e,.ref g]);generalize L2.upd (L2.upd (L2.upd H e (.lst (as.map V.ref))) g (.dT (aS cs))) p (.lst [.ref e,.ref g])=H1 at S1 C D M;refine⟨2,rfl,ω,ω,?_⟩;refine jU (lo:=0) (n:=(2:Int).toNat) (fun i σ H2=>∃(r x:Option V),σ=[some (.int 0),some (.ref l),some (.ref d),some (.ref u),some (.ref p),r,x]/\zH H1 H2/\Tab H2 Pt eB qO) ⟨none,none,rfl,zH.refl H1,tb.same S1⟩ ?_ ?_
   ·rintro i σ H2 hi ⟨r,x,rfl,b,q⟩
    have G:=b.list M;refine⟨_,rfl,_,rfl,p,_,0,.ref e,rfl,rfl,SqL.of G,rfl,_,rfl,p,_,1,.ref g,rfl,rfl,SqL.of G,rfl,?_⟩;refine .inl ⟨e,g,as,pss,cs,rfl,⟨b.seq (SqL.of C),b.tps (S1.tps W.ht),W.hw,W.few,b.dT D,W.nc,W.z⟩,q,.inl ⟨hg,fun FD I bs os j uc nK jD to ho=>?_⟩⟩;obtain rfl:=hO os ho;have jK:I u=some (.lst (us.map V.ref)):=j.list (b.list (S1 _ _ hU));refine⟨_,rfl,_,rfl,.inr ⟨FD,u,bs,us,os,os,rfl,rfl,SqL.of jD,to,SqL.of jK,j.tps (b.tps (S1.tps hT)),_,rfl,?_⟩⟩;rw[if_pos rfl,decide_eq_true rfl];refine aB ⟨_,rfl,_,rfl,_,rfl,zf (by simp),fun T mK=>?_⟩;have il:=Same.new (o:=.lst [.ref l,.ref d]) mK;have c:=il.toN;have N:=za (H:=I) (a:=T) (o:=.lst [.ref l,.ref d]);have O:=uc.same il;have S:=c.list jD;generalize L2.upd I T (.lst [.ref l,.ref d])=H5 at c il N O S;have HT:Tps H5 as pss:=c.tps (j.tps (b.tps (S1.tps W.ht)));refine⟨p,T,_,_,rfl,rfl,SqL.of (c.list (j.list G)),SqL.of N,.cons (.lt (SqL.of (c.list (j.list (b.list C)))) HT (c.seq (j.seq (b.seq (S1.seq W.hl)))) HT) (.cons (.dt (.inl (c.dT (j.dT (b.dT D)))) (.inl (c.dT (j.dT (b.dT (S1 _ _ W.hd))))) (gu cs) (wW cs)) .nil),_,rfl,aB ?_⟩;refine⟨_,rfl,u,_,rfl,rfl,.inl ⟨_,SqL.of (c.list jK)⟩,_,rfl,aB ?_⟩;refine⟨_,rfl,rfl,_,rfl,aT ⟨_,rfl,FD,_,rfl,S,_,rfl,?_⟩⟩;refine aB ⟨_,rfl,rfl,_,rfl,aB (aB ?_)⟩;exact⟨_,rfl,.inl ⟨rfl,_,SqL.of S⟩,FD,_,rfl,rfl,S,_,_,rfl,b.trans ((j.trans c).then nK),Tab.put O S⟩
   ·rintro σ H2 ⟨r,x,rfl,b,q⟩
    exact k H2 (S1.toN.trans b) q
  ·refine⟨_,zb (zu (i:=4) eX.nd rfl (Or.inl rfl) (zJ (ac (zq nJ rfl B.list er (ac (pv 1) ai)) (ac (zq wn rfl X fu (ac (pv 2) ai)) ai))))
    (zb (dF A8 rfl (iC rfl B.range (ac zg ai)) (zr (i:=5) eX.nd rfl (Or.inl rfl))
     (zb (zu (i:=6) eX.nd rfl (Or.inl rfl) (zT Ca hr rfl ao (ac (pv 0) (ac (bO zG (pv 4) zg (fun _ _=>rfl)) (ac (bO zG (pv 4) zg (fun _ _=>rfl)) ai)))))
     (zb (zP (PW.pt (gf (zk nA (pv 6) (pv 3) (al _)) (f_ (zk (qp dv) (pv 4) (zJ (ac (pv 1) (ac (pv 2) ai))) (al _))))) (zd (zn zY)) zt)
     (zb (zP (zk c5 (pv 3) pe_str (al _)) (zd (zn zY)) zt)
     (zb (zP (PW.pt (gf (PW.pt (fc (zk c5 (pv 0) zg (al _)) (fb (dY (et (zi pP rfl B.isinstance zE (ac (pv 6) (ac (gH (v:=.ty "list") rfl B.list er rfl) ai)))))))) (f_ (PW.pt (fc (zk c5 (pv 0) zg (al _)) (fb (dY (et (zi p0 rfl B.isinstance zE (ac (pv 6) (ac (gH (v:=.ty "dict") rfl X fu rfl) ai))))))))))) (zd (zn zY)) zt)
     (zd (fy (xN PySem.F.plainAttrs_list PySem.F.slot_list_clear PySem.F.type_list_clear xO (pv 6)))))))))
    (zd (zn zY))),?_⟩
   refine⟨_,rfl,l,_,rfl,.inl W.hl,fun e Y=>?_⟩;have J:=Same.new (o:=.lst (as.map V.ref)) Y;refine⟨_,rfl,d,aS cs,zM cs,rfl,.inl (J _ _ W.hd),gu cs,hh,fun g eD=>?_⟩;have L:=Same.new (o:=.dT (aS cs)) eD;refine⟨zf (by simp),fun p ix=>?_⟩;have y:=Same.new (o:=.lst [.ref e,.ref g]) ix;have S1:=(J.trans L).trans y;have C:=y _ _ (L _ _ (za (H:=H) (a:=e) (o:=.lst (as.map V.ref))));have D:=y _ _ (za (H:=L2.upd H e (.lst (as.map V.ref))) (a:=g) (o:=.dT (aS cs)));have M:=za (H:=L2.upd (L2.upd H e (.lst (as.map V.ref))) g (.dT (aS cs))) (a:=p) (o:=.lst [.ref e,.ref g]);generalize L2.upd (L2.upd (L2.upd H e (.lst (as.map V.ref))) g (.dT (aS cs))) p (.lst [.ref e,.ref g])=H1 at S1 C D M;refine⟨2,rfl,ω,ω,?_⟩;refine jU (lo:=0) (n:=(2:Int).toNat) (fun i σ H2=>∃(r x:Option V),σ=[some (.int 0),some (.ref l),some (.ref d),some (.str "order"),some (.ref p),r,x]/\zH H1 H2/\Tab H2 Pt eB qO) ⟨none,none,rfl,zH.refl H1,tb.same S1⟩ ?_ ?_
   ·rintro i σ H2 hi ⟨r,x,rfl,b,q⟩
    have G:=b.list M;refine⟨_,rfl,_,rfl,p,_,0,.ref e,rfl,rfl,SqL.of G,rfl,_,rfl,p,_,1,.ref g,rfl,rfl,SqL.of G,rfl,?_⟩;refine .inl ⟨e,g,as,pss,cs,rfl,⟨b.seq (SqL.of C),b.tps (S1.tps W.ht),W.hw,W.few,b.dT D,W.nc,W.z⟩,q,.inr ⟨hg,fun I U=>?_⟩⟩;have j:=U.toN;refine⟨_,rfl,_,rfl,rfl,_,rfl,?_⟩;rw[decide_eq_true rfl];refine aB ⟨_,rfl,_,rfl,_,rfl,zf (by simp),fun T hT=>?_⟩;have c:=(Same.new (o:=.lst [.ref l,.ref d]) hT).toN;have N:=za (H:=I) (a:=T) (o:=.lst [.ref l,.ref d]);have O:=(q.same U).same (Same.new (o:=.lst [.ref l,.ref d]) hT);generalize L2.upd I T (.lst [.ref l,.ref d])=H5 at c N O;have HT:Tps H5 as pss:=c.tps (j.tps (b.tps (S1.tps W.ht)));refine⟨p,T,_,_,rfl,rfl,SqL.of (c.list (j.list G)),SqL.of N,.cons (.lt (SqL.of (c.list (j.list (b.list C)))) HT (c.seq (j.seq (b.seq (S1.seq W.hl)))) HT) (.cons (.dt (.inl (c.dT (j.dT (b.dT D)))) (.inl (c.dT (j.dT (b.dT (S1 _ _ W.hd))))) (gu cs) (wW cs)) .nil),_,rfl,aB ⟨_,rfl,rfl,_,rfl,?_⟩⟩;rw[decide_eq_true rfl];exact aT (k H5 (((S1.toN.trans b).trans j).trans c) O)
   ·rintro σ H2 ⟨r,x,rfl,b,q⟩
    exact k H2 (S1.toN.trans b) q
  ·refine⟨_,zb (zu (i:=4) eX.nd rfl (Or.inl rfl) (zJ (ac (zq nJ rfl B.list er (ac (pv 1) ai)) (ac (zq wS rfl X fu (ac (pv 2) ai)) ai))))
    (zb (dF A8 rfl (iC rfl B.range (ac zg ai)) (zr (i:=5) eX.nd rfl (Or.inl rfl))
     (zb (zu (i:=6) eX.nd rfl (Or.inl rfl) (zT Ca hr rfl ao (ac (pv 0) (ac (bO zG (pv 4) zg (fun _ _=>rfl)) (ac (bO zG (pv 4) zg (fun _ _=>rfl)) ai)))))
     (zb (zP (PW.pt (gf (zk (HI aE) (pv 6) (pv 3) (al _)) (f_ (zk (qp dv) (pv 4) (zJ (ac (pv 1) (ac (pv 2) ai))) (al _))))) (zd (zn zY)) zt)
     (zb (zP (zk (Cj aE) (pv 3) pe_str (al _)) (zd (zn zY)) zt)
     (zb (zP (PW.pt (gf (PW.pt (fc (zk c5 (pv 0) zg (al _)) (fb (dY (et (zi pP rfl B.isinstance zE (ac (pv 6) (ac (gH (v:=.ty "list") rfl B.list er rfl) ai)))))))) (f_ (PW.pt (fc (zk c5 (pv 0) zg (al _)) (fb (dY (et (zi p0 rfl B.isinstance zE (ac (pv 6) (ac (gH (v:=.ty "dict") rfl X fu rfl) ai))))))))))) (zd (zn zY)) zt)
     (zd (fy (Ck (pv 6)))))))))
    (zd (zn zY))),?_⟩
   refine⟨_,rfl,l,_,rfl,.inl W.hl,fun e Y=>?_⟩;have J:=Same.new (o:=.lst (as.map V.ref)) Y;refine⟨_,rfl,d,bj ns,rfl,.inl (J _ _ W.hd),fun g eD=>?_⟩;have L:=Same.new (o:=.dK (bj ns)) eD;refine⟨zf (by simp),fun p ix=>?_⟩;have y:=Same.new (o:=.lst [.ref e,.ref g]) ix;have S1:=(J.trans L).trans y;have C:=y _ _ (L _ _ (za (H:=H) (a:=e) (o:=.lst (as.map V.ref))));have D:=y _ _ (za (H:=L2.upd H e (.lst (as.map V.ref))) (a:=g) (o:=.dK (bj ns)));have M:=za (H:=L2.upd (L2.upd H e (.lst (as.map V.ref))) g (.dK (bj ns))) (a:=p) (o:=.lst [.ref e,.ref g]);generalize L2.upd (L2.upd (L2.upd H e (.lst (as.map V.ref))) g (.dK (bj ns))) p (.lst [.ref e,.ref g])=H1 at S1 C D M;refine⟨2,rfl,ω,ω,?_⟩;refine jU (lo:=0) (n:=(2:Int).toNat) (fun i σ H2=>∃(r x:Option V),σ=[some (.int 1),some (.ref l),some (.ref d),some (.ref u),some (.ref p),r,x]/\zH H1 H2/\Tab H2 Pt eB qO) ⟨none,none,rfl,zH.refl H1,tb.same S1⟩ ?_ ?_
   ·rintro i σ H2 hi ⟨r,x,rfl,b,q⟩
    have G:=b.list M;refine⟨_,rfl,_,rfl,p,_,0,.ref e,rfl,rfl,SqL.of G,rfl,_,rfl,p,_,1,.ref g,rfl,rfl,SqL.of G,rfl,?_⟩;refine .inr ⟨e,g,as,pss,ns,rfl,⟨b.seq (SqL.of C),b.tps (S1.tps W.ht),W.hw,W.few,b.dK D,W.nc,W.z⟩,.inl ⟨hg,fun FD I U nK jD=>?_⟩⟩;have j:=U.toN;have jK:I u=some (.dT (aS (cX ns (canon pss)))):=j.dT (b.dT (S1 _ _ hU));refine⟨_,rfl,_,rfl,FD,u,true,rfl,rfl,⟨_,_,(cX ns (canon pss)).map (·.1),(cX ns (canon pss)).map (·.1),(cX ns (canon pss)).map (·.2),.inl jD,.inl jK,gu _,gu _,wW _,.inl ⟨rfl,rfl,fun kv h=>h⟩⟩,_,rfl,?_⟩;refine aB ⟨_,rfl,_,rfl,_,rfl,zf (by simp),fun T mK=>?_⟩;have il:=Same.new (o:=.lst [.ref l,.ref d]) mK;have c:=il.toN;have N:=za (H:=I) (a:=T) (o:=.lst [.ref l,.ref d]);have O:=(q.same U).same il;have S:=c.dT jD;generalize L2.upd I T (.lst [.ref l,.ref d])=H5 at c il N O S;have HT:Tps H5 as pss:=c.tps (j.tps (b.tps (S1.tps W.ht)));refine⟨p,T,_,_,rfl,rfl,SqL.of (c.list (j.list G)),SqL.of N,.cons (.lt (SqL.of (c.list (j.list (b.list C)))) HT (c.seq (j.seq (b.seq (S1.seq W.hl)))) HT) (.cons (.dz (.inl (c.dK (j.dK (b.dK D)))) (.inl (c.dK (j.dK (b.dK (S1 _ _ W.hd)))))) .nil),_,rfl,aB ?_⟩;refine⟨_,rfl,u,_,rfl,rfl,.inr ⟨_,.inl (c.dT jK)⟩,_,rfl,aB ?_⟩;refine⟨_,rfl,rfl,_,rfl,aB (aB ⟨_,rfl,rfl,_,rfl,aT ⟨_,rfl,FD,_,rfl,S,_,rfl,aB ?_⟩⟩)⟩;exact⟨_,rfl,FD,_,rfl,rfl,S,_,_,rfl,b.trans ((j.trans c).then nK),Tab.put2 O S⟩
   ·rintro σ H2 ⟨r,x,rfl,b,q⟩
    exact k H2 (S1.toN.trans b) q
  ·refine⟨_,zb (zu (i:=4) eX.nd rfl (Or.inl rfl) (zJ (ac (zq nJ rfl B.list er (ac (pv 1) ai)) (ac (zq wS rfl X fu (ac (pv 2) ai)) ai))))
    (zb (dF A8 rfl (iC rfl B.range (ac zg ai)) (zr (i:=5) eX.nd rfl (Or.inl rfl))
     (zb (zu (i:=6) eX.nd rfl (Or.inl rfl) (zT Ca hr rfl ao (ac (pv 0) (ac (bO zG (pv 4) zg (fun _ _=>rfl)) (ac (bO zG (pv 4) zg (fun _ _=>rfl)) ai)))))
     (zb (zP (PW.pt (gf (zk nA (pv 6) (pv 3) (al _)) (f_ (zk (qp dv) (pv 4) (zJ (ac (pv 1) (ac (pv 2) ai))) (al _))))) (zd (zn zY)) zt)
     (zb (zP (zk c5 (pv 3) pe_str (al _)) (zd (zn zY)) zt)
     (zb (zP (PW.pt (gf (PW.pt (fc (zk c5 (pv 0) zg (al _)) (fb (dY (et (zi pP rfl B.isinstance zE (ac (pv 6) (ac (gH (v:=.ty "list") rfl B.list er rfl) ai)))))))) (f_ (PW.pt (fc (zk c5 (pv 0) zg (al _)) (fb (dY (et (zi p0 rfl B.isinstance zE (ac (pv 6) (ac (gH (v:=.ty "dict") rfl X fu rfl) ai))))))))))) (zd (zn zY)) zt)
     (zd (fy (Ck (pv 6)))))))))
    (zd (zn zY))),?_⟩
   refine⟨_,rfl,l,_,rfl,.inl W.hl,fun e Y=>?_⟩;have J:=Same.new (o:=.lst (as.map V.ref)) Y;refine⟨_,rfl,d,bj ns,rfl,.inl (J _ _ W.hd),fun g eD=>?_⟩;have L:=Same.new (o:=.dK (bj ns)) eD;refine⟨zf (by simp),fun p ix=>?_⟩;have y:=Same.new (o:=.lst [.ref e,.ref g]) ix;have S1:=(J.trans L).trans y;have C:=y _ _ (L _ _ (za (H:=H) (a:=e) (o:=.lst (as.map V.ref))));have D:=y _ _ (za (H:=L2.upd H e (.lst (as.map V.ref))) (a:=g) (o:=.dK (bj ns)));have M:=za (H:=L2.upd (L2.upd H e (.lst (as.map V.ref))) g (.dK (bj ns))) (a:=p) (o:=.lst [.ref e,.ref g]);generalize L2.upd (L2.upd (L2.upd H e (.lst (as.map V.ref))) g (.dK (bj ns))) p (.lst [.ref e,.ref g])=H1 at S1 C D M;refine⟨2,rfl,ω,ω,?_⟩;refine jU (lo:=0) (n:=(2:Int).toNat) (fun i σ H2=>∃(r x:Option V),σ=[some (.int 1),some (.ref l),some (.ref d),some (.str "order"),some (.ref p),r,x]/\zH H1 H2/\Tab H2 Pt eB qO) ⟨none,none,rfl,zH.refl H1,tb.same S1⟩ ?_ ?_
   ·rintro i σ H2 hi ⟨r,x,rfl,b,q⟩
    have G:=b.list M;refine⟨_,rfl,_,rfl,p,_,0,.ref e,rfl,rfl,SqL.of G,rfl,_,rfl,p,_,1,.ref g,rfl,rfl,SqL.of G,rfl,?_⟩;refine .inr ⟨e,g,as,pss,ns,rfl,⟨b.seq (SqL.of C),b.tps (S1.tps W.ht),W.hw,W.few,b.dK D,W.nc,W.z⟩,.inr ⟨hg,fun I U=>?_⟩⟩;have j:=U.toN;refine⟨_,rfl,_,rfl,rfl,_,rfl,?_⟩;rw[decide_eq_true rfl];refine aB ⟨_,rfl,_,rfl,_,rfl,zf (by simp),fun T hT=>?_⟩;have c:=(Same.new (o:=.lst [.ref l,.ref d]) hT).toN;have N:=za (H:=I) (a:=T) (o:=.lst [.ref l,.ref d]);have O:=(q.same U).same (Same.new (o:=.lst [.ref l,.ref d]) hT);generalize L2.upd I T (.lst [.ref l,.ref d])=H5 at c N O;have HT:Tps H5 as pss:=c.tps (j.tps (b.tps (S1.tps W.ht)));refine⟨p,T,_,_,rfl,rfl,SqL.of (c.list (j.list G)),SqL.of N,.cons (.lt (SqL.of (c.list (j.list (b.list C)))) HT (c.seq (j.seq (b.seq (S1.seq W.hl)))) HT) (.cons (.dz (.inl (c.dK (j.dK (b.dK D)))) (.inl (c.dK (j.dK (b.dK (S1 _ _ W.hd)))))) .nil),_,rfl,aB ⟨_,rfl,rfl,_,rfl,?_⟩⟩;rw[decide_eq_true rfl];exact aT (k H5 (((S1.toN.trans b).trans j).trans c) O)
   ·rintro σ H2 ⟨r,x,rfl,b,q⟩
    exact k H2 (S1.toN.trans b) q
end
end K63
end
section
namespace DPr
open PySem PyProof.Rows
section
variable{prog:Program}{w:World}{A:Around}{E:Ω}{s:Shared}
def IL:typeLookup (.type "list") "keys"=pure none:=by rw[typeLookup_type,builtinLookup_eq_fast];kernel_rfl
def Cq{a:Addr}{o:Obj}{xs:Array Value}{k:Nat}{Q:Option Value->Shared->Prop}(hx:s.heap.get? a=some o)(hc:o.cls=.type "list")(f:o.data=.seq xs k)(hd:o.dict=none)(j:A.handled=none)(h:∀h' tk e,Heap.NewExcOf s.heap h' e "AttributeError"->Q none {s with heap:=h',toks:=tk}):wpAny (model prog w) A (getAttr? (.ref a) "keys") Q E s:=by
 obtain⟨c,l,p,i⟩:=o;simp only at hc f hd;subst hc f hd;obtain⟨hp,g,d,tk,os⟩:=s;have hT:∀b,(⟨hp,g,d,b,os⟩:Shared).TypeIs (.ref a) "list":=fun _=>⟨_,hx,rfl⟩;have f1:=sub_AttributeError;have r:=F.slot_list_getattribute.lookup;have u:=F.slot_list_getattribute.bind (.ref a);have f5:=am_list_getattr_none;unfold getAttr? getAttrBy? getAttrBy
 repeat(any_goals(first|assumption|exact hT _|((with_reducible show wpAny _ _ (call (Value.builtin "list.__getattribute__") _ _) _ _ _);refine call_meets F.slot_list_getattribute (hT _) am_entry_list_getattribute (F.args_list_getattribute_2 _ _) (meets_getattribute_miss_list a xs k i "keys" _ IL ξ (by size_fits)) ⟨hx,j,fun h' b e hx'=>?_⟩)|wp_step))
 obtain⟨t',q,he⟩:=hx'.there;show wpAny _ _ (getattributeRaised _ _ _ _ _ _ _) _ _ _;unfold getattributeRaised
 repeat(any_goals(first|assumption|wp_step))
 exact h _ _ _ hx'.of
def qu:entryFor table "dict.update.loop"=some Builtin.«dict.update.loop»:=entryFor_of_tree (by kernel_rfl)
def zX:plainId "dict.update.loop"=true:=δ
abbrev lp(D I:Addr)(i:Int):Code:=.builtin "dict.update.loop" ⟨[.ref D,.ref I,rawInt i,.none],[]⟩
variable{K:Type}[DecidableEq K]{knd:KeyKind prog w K}
abbrev Pr(K:Type):Type:=Addr×List K×Addr×Value
def Good(knd:KeyKind prog w K)(h:Heap)(x:Pr K):Prop:=h.IsTuple x.1 #[.ref x.2.2.1,x.2.2.2]/\AJ knd h x.2.1 x.2.2.1
def mS(xs:List (List K×Addr×Value))(ts:List (Pr K)):List (List K×Addr×Value):=ts.foldl (fun acc x=>storedH acc x.2.1 x.2.2.1 x.2.2.2) xs
def Cs{h h':Heap}{x:Pr K}{D I:Addr}{o:Obj}(g:Good knd h x)(w:∃o,h.get? D=some o/\o.cls=.type "dict")(y:∃o,h.get? I=some o/\o.cls=.type "list_iterator")(i:∀b o,b≠D->b≠I->h.get? b=some o->h'.get? b=some o):Good knd h' x:=by
 obtain⟨⟨j,e1,e,l⟩,p,it,n,e2,f,q⟩:=g;obtain⟨A,r,s⟩:=w;obtain⟨C,u,v⟩:=y;have ne:∀{a:Addr}{d:Obj},h.get? a=some d->d.cls=.type "tuple"->a≠D/\a≠I:=fun{a d} c ca=>by
  refine⟨fun z=>?_,fun z=>?_⟩
  ·rw[z,r] at c
   rw[<-Al c,s] at ca;exact absurd ca ξ
  ·rw[z,u] at c
   rw[<-Al c,v] at ca;exact absurd ca ξ
 exact⟨⟨j,i _ _ (ne e1 e).1 (ne e1 e).2 e1,e,l⟩,p,it,n,i _ _ (ne e2 f).1 (ne e2 f).2 e2,f,q⟩
def Cu{h h':Heap}{D I:Addr}{xs:List (List K×Addr×Value)}(d:h.DictOfH (tupleKind knd) D xs)(c:D≠I)(r:∃o,h.get? I=some o/\o.cls=.type "list_iterator")(e:∀b o,b≠I->h.get? b=some o->h'.get? b=some o):h'.DictOfH (tupleKind knd) D xs:=by
 obtain⟨o,es,ep,f,hc,hd,he,g,i⟩:=d;obtain⟨s,j,l⟩:=r;refine⟨o,es,ep,e _ _ c f,hc,hd,he,fun x hx=>?_,i⟩;obtain⟨p,it,n,e2,a,q⟩:=g x hx;refine⟨p,it,n,e _ _ (fun z=>?_) e2,a,q⟩;rw[z,j] at e2;rw[<-Al e2,l] at a;exact absurd a ξ
def pair_items{t:Addr}{b:Array Value}{Q:List Value->Shared->Prop}(c:s.heap.IsTuple t b)(h:Q b.toList s):wpAny (model prog w) A (Builtin.Dict.pairItems (.ref t)) Q E s:=by
 obtain⟨o,a,hc,n,hd⟩:=c;unfold Builtin.Dict.pairItems;refine Aa (wpAny_typeOf (show s.TypeIs (.ref t) "tuple" from⟨o,a,hc⟩) ?_);rw[if_pos ξ];exact Aa (wpAny_seqItems a hd (Ac h))
def IM(xs:List (List K×Addr×Value))(k:List K)(a:Addr)(v:Value):(storedH xs k a v).length<=xs.length+1:=by
 unfold storedH;split
 ·rw[Ab];omega
 ·rw[AC];simp
def mV{D I L:Addr}{ts:List (Pr K)}{R:Result->Shared->Prop}(u:A.handled=none)(hu:A.units+1<cLine)(p:D≠I)(F:L≠D)(y:L≠I):∀(k j:Nat)(s:Shared)(xs:List (List K×Addr×Value)),ts.length-j=k->j<=ts.length->s.heap.IsListIter I L j->s.heap.IsList L (ts.map fun x=>Value.ref x.1).toArray->(∀x∈ts,Good knd s.heap x)->
   s.heap.DictOfH (tupleKind knd) D xs->xs.length+k<=sizeLine->
   (∀h' tk,h'.DictOfH (tupleKind knd) D (mS xs (ts.drop j))->(∀b o,b≠D->b≠I->s.heap.get? b=some o->h'.get? b=some o)->R (.ok (.ret .none)) {s with heap:=h',toks:=tk})->
   codeAny (model prog w) A (lp D I j) R s
 |0,j,s,xs,hk,hj,aN,hl,hg,hd,hz,hQ=>by
  have Q:j=ts.length:=ω
  subst Q;have W:=Walks.list (prog:=prog) (w:=w) (A:=A.in1) u I L y (ts.map fun x=>Value.ref x.1).toArray;refine Bh qu ?_;rw[Around.under_plainId zX _];unfold Builtin.«dict.update.loop»;dsimp only[rawInt];refine Aa (W.done s _ _ ⟨by simpa using aN,hl⟩ fun h' tk d=>?_);dsimp only;unfold Builtin.Dict.addKeywords;refine Aa (wpAny_of_eq (a:=()) rfl ?_);obtain⟨c,f,g,_⟩:=aN;refine Ac (hQ h' tk ?_ fun b o _ hb e=>d b o (by simpa using hb) e);rw[List.drop_length];exact Cu hd p ⟨c,f,g⟩ fun b o hb e=>d b o (by simpa using hb) e
 |k+1,j,s,xs,hk,hj,aN,hl,hg,hd,hz,hQ=>by
  have W:=Walks.list (prog:=prog) (w:=w) (A:=A.in1) u I L y (ts.map fun x=>Value.ref x.1).toArray;have h:j<ts.length:=ω
  refine Bh qu ?_;rw[Around.under_plainId zX _];unfold Builtin.«dict.update.loop»;dsimp only[rawInt];refine Aa (W.item j s _ _ (by simpa using h) ⟨aN,hl⟩ fun v h1 tk G z d=>?_);have S:v=.ref (ts[j]).1:=by
   have:(ts.map fun x=>Value.ref x.1).toArray[j]?=some (Value.ref (ts[j]).1):=by simp[h]
   exact Al (G.symm.trans this)
  subst S;have X:=hg ts[j] (A1 h);obtain⟨c,f,g,_⟩:=id aN;have C:∃o,s.heap.get? D=some o/\o.cls=.type "dict":=by
   obtain⟨o,es,ep,N,hc,_⟩:=hd;exact⟨o,N,hc.1⟩
  have i:∀b o,b≠D->b≠I->s.heap.get? b=some o->h1.get? b=some o:=fun b o _ hb e=>d b o (by simpa using hb) e;have T:∀x∈ts,Good knd h1 x:=fun x hx=>Cs (o:=c) (hg x hx) C ⟨c,f,g⟩ i;have U:h1.DictOfH (tupleKind knd) D xs:=Cu hd p ⟨c,f,g⟩ fun b o hb e=>d b o (by simpa using hb) e;obtain⟨O,P⟩:=T ts[j] (A1 h);dsimp only;refine Aa (AI (Aa (wpAny_tryCatch (pair_items (s:={s with heap:=h1,toks:=tk}) O ?_))));dsimp only;refine AI (wpAny_dictSet_heap (knd:=tupleKind knd) (s:={s with heap:=h1,toks:=tk}) (hsz:=by omega) (tupleKind_room_in1 hu) P U fun h2 H q=>?_);have E:∀b o,b≠D->b≠I->s.heap.get? b=some o->h2.get? b=some o:=fun b o hb hi e=>by rw[q.2 b hb];exact i b o hb hi e
  have l:h2.IsListIter I L (j+1):=z.1.at fun o e=>by rw[q.2 I (Ne.symm p)];exact e
  have r:h2.IsList L (ts.map fun x=>Value.ref x.1).toArray:=z.2.at fun o e=>by rw[q.2 L F];exact e
  refine Ac ⟨plainId_quiet zX _,?_⟩;refine mV u hu p F y k (j+1) {s with heap:=h2,toks:=_} _ ω ω l r (fun x hx=>Cs (o:=c) (hg x hx) C ⟨c,f,g⟩ E) H (by have:=IM xs (ts[j]).2.1 (ts[j]).2.2.1 (ts[j]).2.2.2;omega) fun h' J M k3=>hQ h' J ?_ fun b o hb hi e=>k3 b o hb hi (E b o hb hi e);rw[List.drop_eq_getElem_cons h];exact M
end
end DPr
end
section
namespace DPr
open PySem PyProof.Rows DCp
section
variable{prog:Program}{w:World}{A:Around}{E:Ω}{s:Shared}{K:Type}[DecidableEq K]{knd:KeyKind prog w K}
def wY{L:Addr}{o:Obj}{n:Nat}{ts:List (Pr K)}{Q:Ω}(H:A.handled=none)(hu:A.units+2<cLine)(J:s.heap.get? L=some o)(hc:o.cls=.type "list")(M:o.data=.seq (ts.map fun x=>Value.ref x.1).toArray n)(X:o.dict=none)(Y:∀x∈ts,Good knd s.heap x)(hz:ts.length<=sizeLine)(h:∀h' tk,h'.DictOfH (tupleKind knd) s⁻¹ (mS [] ts)->(∀b o,b<s⁻¹->s.heap.get? b=some o->h'.get? b=some o)->Q (.ref s⁻¹) {s with heap:=h',toks:=tk}):wpAny (model prog w) A (call (.type "dict") [.ref L]) Q E s:=by
 obtain⟨c,tl,c6⟩:=zj.mro;have cE:=zj.made;have aP:=zj.sub;refine wpAny_call (codeAny_of_tree ?_);show wpAny _ _ (callAny (.type "dict") _) _ _ _;refine Ac ⟨Code.quiet_builtin _ δ,Bh F.entry_type_call ?_⟩;rw[Around.under_plain (weight_type_call_type "dict" [.ref L] []) rfl];have h1:=zj.notType;have h2:=zj.canCreate;have jq:=wj (.ref L)
 repeat(any_goals(first|assumption|wp_step))
 refine Bc (wl (.ref L) (E:=E) (Q₁:=fun obj l=>obj=.ref s⁻¹/\l={s with heap:=s.heap.push {cls:=.type "dict",data:=.dict #[]}}) ⟨rfl,rfl⟩) fun r l hr=>?_;cases r with
 |error e=>exact hr
 |ok fl=>
  cases fl with
  |ret obj=>
   obtain⟨rfl,rfl⟩:=hr;have v:(s.heap.push {cls:=.type "dict",data:=.dict #[]}).get? s⁻¹=some {cls:=.type "dict",data:=.dict #[]}:=Ar _ rfl;have y:Shared.TypeIs {s with heap:=s.heap.push {cls:=.type "dict",data:=.dict #[]}} (.ref s⁻¹) "dict":=⟨_,v,rfl⟩;have jL:=zj.init.lookup;have jH:=zj.init.bind (.ref s⁻¹)
   repeat(any_goals(first|assumption|wp_step))
   refine Bc (codeAny_call_builtin (R:=wants (fun r p=>r=.none/\∃h' tk,p={s with heap:=h',toks:=tk}/\h'.DictOfH (tupleKind knd) s⁻¹ (mS [] ts)/\
     (∀b o,b<s⁻¹->s.heap.get? b=some o->h'.get? b=some o)) E) zj.init.plain F.entry_dict_init (zj.init.check _ _ _ _ _ _ _ _ y (F.args_dict_init_2 _ _) ?_)) fun N p d=>?_
   ·have z:L<s⁻¹:=Ao J
    have a:(s.heap.push {cls:=.type "dict",data:=.dict #[]}).get? L=some o:=Ad _ J;have W:Shared.TypeIs {s with heap:=s.heap.push {cls:=.type "dict",data:=.dict #[]}} (.ref L) "list":=⟨o,a,hc⟩;unfold Builtin.«dict.__init__»;refine Aa ?_;unfold Builtin.Dict.selfAndRest;refine Aa (wpAny_notOrdered_dict y ?_);refine Aa (show wpAny _ _ (pure s⁻¹) _ _ _ from Ac ?_);refine Ac ?_;show wpAny _ _ (Builtin.Dict.updateCommon "dict.__init__" "dict" s⁻¹ [Value.ref L] []) _ _ _;unfold Builtin.Dict.updateCommon Builtin.Dict.updateFrom;dsimp only;refine Aa (wpAny_typeOf W ?_);rw[if_pos ξ];refine Aa (Cq (s:={s with heap:=s.heap.push {cls:=.type "dict",data:=.dict #[]}}) a hc M X H fun h2 q e2 f=>?_);rw[if_pos (by rfl)];refine Aa (wpAny_rule ?_);have C:h2.IsList L (ts.map fun x=>Value.ref x.1).toArray:=⟨o,f.keeps _ _ a,hc,n,M⟩;refine Aa (wpAny_pyIter_list (s:={s with heap:=h2,toks:=q}) C ?_);have G:h2.get? s⁻¹=some {cls:=.type "dict",data:=.dict #[]}:=f.keeps _ _ v;have g:s⁻¹<h2.objs.size:=Ao G;have i:∀b ob,h2.get? b=some ob->(h2.push {cls:=.type "list_iterator",data:=.fields #[.ref L,.int 0 0]}).get? b=some ob:=fun b ob e=>Ad _ e;have j:∀b ob,s.heap.get? b=some ob->(h2.push {cls:=.type "list_iterator",data:=.fields #[.ref L,.int 0 0]}).get? b=some ob:=fun b ob e=>i _ _ (f.keeps _ _ (Ad _ e));refine Ac ⟨plainId_quiet zX _,?_⟩;refine mV (knd:=knd) (ts:=ts) (L:=L) (D:=s⁻¹) (I:=h2.objs.size) (by exact H) (by first|exact hu|(show A.units+1<cLine;omega)) (Ap g) (Ap z) (Ap (Nat.lt_trans z g)) ts.length 0 {s with heap:=h2.push {cls:=.type "list_iterator",data:=.fields #[.ref L,.int 0 0]},toks:=q} [] ω (AK _)
     ⟨_,Ar _ rfl,rfl,rfl⟩ (C.at fun ob e=>i _ _ e) (fun x hx=>?_) ⟨_,#[],0,i _ _ G,⟨rfl,rfl,rfl⟩,rfl,rfl,(fun x hx=>nomatch hx),List.nodup_nil⟩ (by simpa using hz) fun h' u dd k3=>⟨rfl,h',u,rfl,dd,fun b ob hb e=>k3 b ob (Ap hb) (Ap (Nat.lt_trans hb g)) (j _ _ e)⟩
    obtain⟨⟨O,e1,P⟩,S,it,m,e2,T⟩:=Y x hx;exact⟨⟨O,j _ _ e1,P⟩,S,it,m,j _ _ e2,T⟩
   ·cases N with
    |error e=>exact d
    |ok fl₂=>
     cases fl₂ with
     |ret r=>
      obtain⟨rfl,h',u,rfl,U,hk'⟩:=d
      repeat(any_goals(first|assumption|wp_step))
      exact h _ _ U hk'
     |_=>exact d.elim
  |_=>exact hr.elim
end
end DPr
namespace L2
open PySem PySem.Spec PyProof.Rows
def mZ(kvs:List (List Key×V)):List (List Key×V):=kvs.foldl (fun acc kv=>putK acc kv.1 kv.2) []
section
variable{X:Cx}
def Cv:∀(kvs acc:List (List Key×V)),(kvs.foldl (fun acc kv=>putK acc kv.1 kv.2) acc).length<=acc.length+kvs.length
 |[],acc=>by simp
 |kv::r,acc=>by
  rw[List.foldl_cons];have h1:=Cv r (putK acc kv.1 kv.2);have h2:=nP acc kv.1 kv.2;rw[Aw];omega
def wY(hc:X.calm=true)(hu:X.A.units+64<cLine):bU X (.type "dict") (fun xs H Q=>∃(l:Addr)(ts:List Addr)(kvs:List (List Key×V)),xs=[.ref l]/\SqL X.K H l (ts.map V.ref)/\
  Paired (fun t(kv:List Key×V)=>∃b,H t=some (.tup [.ref b,kv.2])/\H b=some (.tup (kv.1.map kV))) ts kvs/\∀D,H D=none->Q (.ref D) (upd H D (.dT (mZ kvs)))):=by
 intro aa s σ H xs us Q I r h;obtain⟨l,ts,kvs,rfl,hq,hp,q⟩:=h;obtain⟨u,rfl,g⟩:=vals1 r;cases g;obtain⟨c,i,⟨o,n,e1,j,p,y⟩,hz⟩:=I.list hq;obtain rfl:=aD i;have T:=A7 hp;have get:∀{ts:List Addr}{kvs:List (List Key×V)},Paired (fun t(kv:List Key×V)=>∃b,H t=some (.tup [.ref b,kv.2])/\H b=some (.tup (kv.1.map kV))) ts kvs->
   ∃ps:List (DPr.Pr Key),ps.map (fun x=>Value.ref x.1)=ts.map Value.ref/\(∀x∈ps,DPr.Good (zo X.prog X.w) s.heap x)/\∀acc(ys:List (List Key×Addr×Value)),KT H acc ys->KT H (kvs.foldl (fun acc kv=>putK acc kv.1 kv.2) acc) (DPr.mS ys ps):=by
  intro ts kvs z
  induction z with
  |nil=>exact⟨[],rfl,(fun x hx=>nomatch hx),fun acc ys k=>k⟩
  |@cons t kv ts kvs hh t' ih=>
   obtain⟨ps,g1,g2,g3⟩:=ih;obtain⟨b,C,hb⟩:=hh;obtain⟨c,E,F,_⟩:=I.tuple (SqT.of (K:=X.K) C);obtain⟨vs,e2,G⟩:∃v,c=[.ref b,v]/\RelV kv.2 v:=by
    cases E with
    |cons ra rb=>
     cases rb with
     |cons rc rd=>
      cases rd;cases ra;exact⟨_,rfl,rc⟩
   subst e2;refine⟨(t,kv.1,b,vs)::ps,by rw[AE,AE,g1],fun x hx=>?_,fun acc ys k=>?_⟩
   ·rcases List.mem_cons.mp hx with rfl|hx
    ·exact⟨F,j_ I.hok hb⟩
    ·exact g2 x hx
   ·exact g3 _ _ (k.put kv.1 hb G)
 obtain⟨ps,g1,g2,g3⟩:=get hp;have P:ps.length=kvs.length:=by
  have:=congrArg List.length g1;rw[Ab,Ab] at this;omega
 rw[Ab] at hz;refine DPr.wY (knd:=zo X.prog X.w) (ts:=ps) (n:=n) (I.ok.hd hc) ω e1 j (by rw[g1];exact y) p g2 ω fun h' tk dd f=>?_;have a:=g3 [] [] .nil;have d:H s⁻¹=none:=I.hok.fresh (Ah _);obtain⟨J,es,ep,L,h2,M,N,S,O⟩:=dd;refine⟨.ref s⁻¹,_,I.laid (o:=.dT (mZ kvs)) (fun b u e=>f b u (Ao e) e) (Ah _) ⟨?_,?_,DPr.mS [] ps,a.keeps fun b ys e=>?_,J,es,ep,L,h2,M,N,O⟩,rfl,q _ d⟩
 ·have:=Cv kvs []
  unfold mZ;simp at this;omega
 ·exact beq_eq_false_iff_ne.mpr (Nat.ne_of_gt I.big)
 ·rw[zh (zl e d)];exact e
end
end L2
end
section
namespace DKp
open PySem PyProof.Rows DCp DPr
section
variable{prog:Program}{w:World}{A:Around}{E:Ω}{s:Shared}{K:Type}[DecidableEq K]{knd:KeyKind prog w K}
abbrev Pk(K:Type):Type:=Addr×K×Value×Value
def kF(knd:KeyKind prog w K)(h:Heap)(x:Pk K):Prop:=h.IsTuple x.1 #[x.2.2.1,x.2.2.2]/\knd.is x.2.1 x.2.2.1=true
def qC(xs:List (K×Value))(ts:List (Pk K)):List (K×Value):=ts.foldl (fun acc x=>stored acc x.2.1 x.2.2.2) xs
def Cy{h h':Heap}{x:Pk K}{D I:Addr}(g:kF knd h x)(s:∃o,h.get? D=some o/\o.cls=.type "dict")(u:∃o,h.get? I=some o/\o.cls=.type "list_iterator")(v:∀b o,b≠D->b≠I->h.get? b=some o->h'.get? b=some o):kF knd h' x:=by
 obtain⟨⟨f,e1,e,i⟩,j⟩:=g;obtain⟨w,l,p⟩:=s;obtain⟨y,q,r⟩:=u;have ne:∀{a:Addr}{d:Obj},h.get? a=some d->d.cls=.type "tuple"->a≠D/\a≠I:=fun{a d} c ca=>by
  refine⟨fun z=>?_,fun z=>?_⟩
  ·rw[z,l] at c
   rw[<-Al c,p] at ca;exact absurd ca ξ
  ·rw[z,q] at c
   rw[<-Al c,r] at ca;exact absurd ca ξ
 exact⟨⟨f,v _ _ (ne e1 e).1 (ne e1 e).2 e1,e,i⟩,j⟩
def Cz{h h':Heap}{D I:Addr}{xs:List (K×Value)}(d:h.DictOf knd D xs)(a:D≠I)(e:∀b o,b≠I->h.get? b=some o->h'.get? b=some o):h'.DictOf knd D xs:=by
 obtain⟨o,es,ep,c,r⟩:=d;exact⟨o,es,ep,e _ _ a c,r⟩
def IN{h h':Heap}{D:Addr}{xs:List (K×Value)}(d:h.DictOf knd D xs)(b:∀o,h.get? D=some o->h'.get? D=some o):h'.DictOf knd D xs:=by
 obtain⟨o,es,ep,a,r⟩:=d;exact⟨o,es,ep,b _ a,r⟩
def IP(xs:List (K×Value))(k:K)(v:Value):(stored xs k v).length<=xs.length+1:=by
 unfold stored;split
 ·rw[Ab];omega
 ·rw[AC];simp
def mV{D I L:Addr}{ts:List (Pk K)}{R:Result->Shared->Prop}(u:A.handled=none)(hu:A.units+1<cLine)(h:D≠I)(F:L≠D)(y:L≠I):∀(k j:Nat)(s:Shared)(xs:List (K×Value)),ts.length-j=k->j<=ts.length->s.heap.IsListIter I L j->s.heap.IsList L (ts.map fun x=>Value.ref x.1).toArray->(∀x∈ts,kF knd s.heap x)->
   s.heap.DictOf knd D xs->xs.length+k<=sizeLine->
   (∀h' tk,h'.DictOf knd D (qC xs (ts.drop j))->(∀b o,b≠D->b≠I->s.heap.get? b=some o->h'.get? b=some o)->R (.ok (.ret .none)) {s with heap:=h',toks:=tk})->
   codeAny (model prog w) A (lp D I j) R s
 |0,j,s,xs,hk,hj,aN,hl,hg,hd,hz,hQ=>by
  have Q:j=ts.length:=ω
  subst Q;have W:=Walks.list (prog:=prog) (w:=w) (A:=A.in1) u I L y (ts.map fun x=>Value.ref x.1).toArray;refine Bh qu ?_;rw[Around.under_plainId zX _];unfold Builtin.«dict.update.loop»;dsimp only[rawInt];refine Aa (W.done s _ _ ⟨by simpa using aN,hl⟩ fun h' tk c=>?_);dsimp only;unfold Builtin.Dict.addKeywords;refine Aa (wpAny_of_eq (a:=()) rfl ?_);obtain⟨l,p,q,_⟩:=aN;refine Ac (hQ h' tk ?_ fun b o _ hb e=>c b o (by simpa using hb) e);rw[List.drop_length];exact Cz hd h fun b o hb e=>c b o (by simpa using hb) e
 |k+1,j,s,xs,hk,hj,aN,hl,hg,hd,hz,hQ=>by
  have W:=Walks.list (prog:=prog) (w:=w) (A:=A.in1) u I L y (ts.map fun x=>Value.ref x.1).toArray;have d:j<ts.length:=ω
  refine Bh qu ?_;rw[Around.under_plainId zX _];unfold Builtin.«dict.update.loop»;dsimp only[rawInt];refine Aa (W.item j s _ _ (by simpa using d) ⟨aN,hl⟩ fun v h1 tk G z c=>?_);have S:v=.ref (ts[j]).1:=by
   have:(ts.map fun x=>Value.ref x.1).toArray[j]?=some (Value.ref (ts[j]).1):=by simp[d]
   exact Al (G.symm.trans this)
  subst S;have X:=hg ts[j] (A1 d);obtain⟨l,p,q,_⟩:=id aN;have C:∃o,s.heap.get? D=some o/\o.cls=.type "dict":=by
   obtain⟨o,es,ep,N,hc,_⟩:=hd;exact⟨o,N,hc.1⟩
  have f:∀b o,b≠D->b≠I->s.heap.get? b=some o->h1.get? b=some o:=fun b o _ hb e=>c b o (by simpa using hb) e;have T:∀x∈ts,kF knd h1 x:=fun x hx=>Cy (hg x hx) C ⟨l,p,q⟩ f;have U:h1.DictOf knd D xs:=Cz hd h fun b o hb e=>c b o (by simpa using hb) e;obtain⟨O,P⟩:=T ts[j] (A1 d);dsimp only;refine Aa (AI (Aa (wpAny_tryCatch (pair_items (s:={s with heap:=h1,toks:=tk}) O ?_))));dsimp only;refine AI (wpAny_dictSet_pairs (knd:=knd) (s:={s with heap:=h1,toks:=tk}) (hsz:=by omega) P U fun h2 H i=>?_);have E:∀b o,b≠D->b≠I->s.heap.get? b=some o->h2.get? b=some o:=fun b o hb hi e=>by rw[i.2 b hb];exact f b o hb hi e
  have g:h2.IsListIter I L (j+1):=z.1.at fun o e=>by rw[i.2 I (Ne.symm h)];exact e
  have r:h2.IsList L (ts.map fun x=>Value.ref x.1).toArray:=z.2.at fun o e=>by rw[i.2 L F];exact e
  refine Ac ⟨plainId_quiet zX _,?_⟩;refine mV u hu h F y k (j+1) {s with heap:=h2,toks:=_} _ ω ω g r (fun x hx=>Cy (hg x hx) C ⟨l,p,q⟩ E) H (by have:=IP xs (ts[j]).2.1 (ts[j]).2.2.2;omega) fun h' J M k3=>hQ h' J ?_ fun b o hb hi e=>k3 b o hb hi (E b o hb hi e);rw[List.drop_eq_getElem_cons d];exact M
def wZ{L:Addr}{o:Obj}{n:Nat}{ts:List (Pk K)}{Q:Ω}(G:A.handled=none)(hu:A.units+2<cLine)(H:s.heap.get? L=some o)(hc:o.cls=.type "list")(J:o.data=.seq (ts.map fun x=>Value.ref x.1).toArray n)(W:o.dict=none)(X:∀x∈ts,kF knd s.heap x)(hz:ts.length<=sizeLine)(h:∀h' tk,h'.DictOf knd s⁻¹ (qC [] ts)->(∀b o,b<s⁻¹->s.heap.get? b=some o->h'.get? b=some o)->Q (.ref s⁻¹) {s with heap:=h',toks:=tk}):wpAny (model prog w) A (call (.type "dict") [.ref L]) Q E s:=by
 obtain⟨c,tl,Y⟩:=zj.mro;have cE:=zj.made;have aP:=zj.sub;refine wpAny_call (codeAny_of_tree ?_);show wpAny _ _ (callAny (.type "dict") _) _ _ _;refine Ac ⟨Code.quiet_builtin _ δ,Bh F.entry_type_call ?_⟩;rw[Around.under_plain (weight_type_call_type "dict" [.ref L] []) rfl];have h1:=zj.notType;have h2:=zj.canCreate;have jq:=wj (.ref L)
 repeat(any_goals(first|assumption|wp_step))
 refine Bc (wl (.ref L) (E:=E) (Q₁:=fun obj j=>obj=.ref s⁻¹/\j={s with heap:=s.heap.push {cls:=.type "dict",data:=.dict #[]}}) ⟨rfl,rfl⟩) fun r j hr=>?_;cases r with
 |error e=>exact hr
 |ok fl=>
  cases fl with
  |ret obj=>
   obtain⟨rfl,rfl⟩:=hr;have u:(s.heap.push {cls:=.type "dict",data:=.dict #[]}).get? s⁻¹=some {cls:=.type "dict",data:=.dict #[]}:=Ar _ rfl;have v:Shared.TypeIs {s with heap:=s.heap.push {cls:=.type "dict",data:=.dict #[]}} (.ref s⁻¹) "dict":=⟨_,u,rfl⟩;have jL:=zj.init.lookup;have jH:=zj.init.bind (.ref s⁻¹)
   repeat(any_goals(first|assumption|wp_step))
   refine Bc (codeAny_call_builtin (R:=wants (fun r l=>r=.none/\∃h' tk,l={s with heap:=h',toks:=tk}/\h'.DictOf knd s⁻¹ (qC [] ts)/\
     (∀b o,b<s⁻¹->s.heap.get? b=some o->h'.get? b=some o)) E) zj.init.plain F.entry_dict_init (zj.init.check _ _ _ _ _ _ _ _ v (F.args_dict_init_2 _ _) ?_)) fun M l f=>?_
   ·have y:L<s⁻¹:=Ao H
    have a:(s.heap.push {cls:=.type "dict",data:=.dict #[]}).get? L=some o:=Ad _ H;have T:Shared.TypeIs {s with heap:=s.heap.push {cls:=.type "dict",data:=.dict #[]}} (.ref L) "list":=⟨o,a,hc⟩;unfold Builtin.«dict.__init__»;refine Aa ?_;unfold Builtin.Dict.selfAndRest;refine Aa (wpAny_notOrdered_dict v ?_);refine Aa (show wpAny _ _ (pure s⁻¹) _ _ _ from Ac ?_);refine Ac ?_;show wpAny _ _ (Builtin.Dict.updateCommon "dict.__init__" "dict" s⁻¹ [Value.ref L] []) _ _ _;unfold Builtin.Dict.updateCommon Builtin.Dict.updateFrom;dsimp only;refine Aa (wpAny_typeOf T ?_);rw[if_pos ξ];refine Aa (Cq (s:={s with heap:=s.heap.push {cls:=.type "dict",data:=.dict #[]}}) a hc J W G fun h2 p e2 d=>?_);rw[if_pos (by rfl)];refine Aa (wpAny_rule ?_);have z:h2.IsList L (ts.map fun x=>Value.ref x.1).toArray:=⟨o,d.keeps _ _ a,hc,n,J⟩;refine Aa (wpAny_pyIter_list (s:={s with heap:=h2,toks:=p}) z ?_);have U:h2.get? s⁻¹=some {cls:=.type "dict",data:=.dict #[]}:=d.keeps _ _ u;have g:s⁻¹<h2.objs.size:=Ao U;have i:∀b ob,h2.get? b=some ob->(h2.push {cls:=.type "list_iterator",data:=.fields #[.ref L,.int 0 0]}).get? b=some ob:=fun b ob e=>Ad _ e;have C:∀b ob,s.heap.get? b=some ob->(h2.push {cls:=.type "list_iterator",data:=.fields #[.ref L,.int 0 0]}).get? b=some ob:=fun b ob e=>i _ _ (d.keeps _ _ (Ad _ e));refine Ac ⟨plainId_quiet zX _,?_⟩;refine mV (knd:=knd) (ts:=ts) (L:=L) (D:=s⁻¹) (I:=h2.objs.size) (by exact G) (by first|exact hu|(show A.units+1<cLine;omega)) (Ap g) (Ap y) (Ap (Nat.lt_trans y g)) ts.length 0 {s with heap:=h2.push {cls:=.type "list_iterator",data:=.fields #[.ref L,.int 0 0]},toks:=p} [] ω (AK _)
     ⟨_,Ar _ rfl,rfl,rfl⟩ (z.at fun ob e=>i _ _ e) (fun x hx=>?_) (IN (Heap.DictOf.new s.heap) fun ob e=>i _ _ (d.keeps _ _ e)) (by simpa using hz) fun h' q dd k3=>⟨rfl,h',q,rfl,dd,fun b ob hb e=>k3 b ob (Ap hb) (Ap (Nat.lt_trans hb g)) (C _ _ e)⟩
    obtain⟨⟨N,e1,O⟩,P⟩:=X x hx;exact⟨⟨N,C _ _ e1,O⟩,P⟩
   ·cases M with
    |error e=>exact f
    |ok fl₂=>
     cases fl₂ with
     |ret r=>
      obtain⟨rfl,h',q,rfl,S,hk'⟩:=f
      repeat(any_goals(first|assumption|wp_step))
      exact h _ _ S hk'
     |_=>exact f.elim
  |_=>exact hr.elim
end
end DKp
namespace L2
open PySem PySem.Spec PyProof.Rows
def foldZ(kvs:List (Key×V)):List (Key×V):=kvs.foldl (fun acc kv=>putK acc kv.1 kv.2) []
section
variable{X:Cx}
def CA:∀(kvs acc:List (Key×V)),(kvs.foldl (fun acc kv=>putK acc kv.1 kv.2) acc).length<=acc.length+kvs.length
 |[],acc=>by simp
 |kv::r,acc=>by
  rw[List.foldl_cons];have h1:=CA r (putK acc kv.1 kv.2);have h2:=nP acc kv.1 kv.2;rw[Aw];omega
def wZ(hc:X.calm=true)(hu:X.A.units+64<cLine):bU X (.type "dict") (fun xs H Q=>∃(l:Addr)(ts:List Addr)(kvs:List (Key×V)),xs=[.ref l]/\SqL X.K H l (ts.map V.ref)/\
  Paired (fun t(kv:Key×V)=>H t=some (.tup [kV kv.1,kv.2])) ts kvs/\∀D,H D=none->Q (.ref D) (upd H D (.dK (foldZ kvs)))):=by
 intro aa s σ H xs us Q I r h;obtain⟨l,ts,kvs,rfl,hq,hp,q⟩:=h;obtain⟨u,rfl,i⟩:=vals1 r;cases i;obtain⟨f,j,⟨o,n,e1,p,v,y⟩,hz⟩:=I.list hq;obtain rfl:=aD j;have L:=A7 hp;have get:∀{ts:List Addr}{kvs:List (Key×V)},Paired (fun t(kv:Key×V)=>H t=some (.tup [kV kv.1,kv.2])) ts kvs->
   ∃ps:List (DKp.Pk Key),ps.map (fun x=>Value.ref x.1)=ts.map Value.ref/\(∀x∈ps,DKp.kF (zo X.prog X.w) s.heap x)/\∀acc(ys:List (Key×Value)),KV acc ys->KV (kvs.foldl (fun acc kv=>putK acc kv.1 kv.2) acc) (DKp.qC ys ps):=by
  intro ts kvs z
  induction z with
  |nil=>exact⟨[],rfl,(fun x hx=>nomatch hx),fun acc ys k=>k⟩
  |@cons t kv ts kvs ht t' ih=>
   obtain⟨ps,g1,g2,g3⟩:=ih;obtain⟨f,C,E,_⟩:=I.tuple (SqT.of (K:=X.K) ht);obtain⟨a,c,e2,rk,F⟩:∃a c,f=[a,c]/\RelV (kV kv.1) a/\RelV kv.2 c:=by
    cases C with
    |cons ra rb=>
     cases rb with
     |cons rc rd=>
      cases rd;exact⟨_,_,rfl,ra,rc⟩
   subst e2;refine⟨(t,kv.1,a,c)::ps,by rw[AE,AE,g1],fun x hx=>?_,fun acc ys k=>?_⟩
   ·rcases List.mem_cons.mp hx with rfl|hx
    ·exact⟨E,li rk⟩
    ·exact g2 x hx
   ·exact g3 _ _ (KV.put k kv.1 F)
 obtain⟨ps,g1,g2,g3⟩:=get hp;have G:ps.length=kvs.length:=by
  have:=congrArg List.length g1;rw[Ab,Ab] at this;omega
 rw[Ab] at hz;refine DKp.wZ (knd:=zo X.prog X.w) (ts:=ps) (n:=n) (I.ok.hd hc) ω e1 p (by rw[g1];exact y) v g2 ω fun h' tk dd g=>?_;have d:=g3 [] [] .nil;have J:H s⁻¹=none:=I.hok.fresh (Ah _);refine⟨.ref s⁻¹,_,I.laid (o:=.dK (foldZ kvs)) (fun b u e=>g b u (Ao e) e) (Ah _) (dk_new ?_ (beq_eq_false_iff_ne.mpr (Nat.ne_of_gt I.big)) d dd),rfl,q _ J⟩;have:=CA kvs [];unfold foldZ;simp at this;omega
end
end L2
end
section
namespace K63
open K1
open PySem L2 STb
def w4{κ:Type}[DecidableEq κ]:∀(kvs acc:List (κ×V)),((acc++kvs).map (·.1)).Nodup->kvs.foldl (fun acc kv=>putK acc kv.1 kv.2) acc=acc++kvs
 |[],acc,_=>by simp
 |kv::kvs,acc,h=>by
  rw[List.foldl_cons];have a:a6 acc kv.1=none:=by
   unfold a6;rw[Option.map_eq_none_iff,List.find?_eq_none];intro x hx z;rw[decide_eq_true_eq] at z;rw[Av,List.nodup_append] at h;exact h.2.2 x.1 (List.mem_map.mpr ⟨x,hx,rfl⟩) kv.1 (by simp) z
  rw[xQ _ a,w4 kvs (acc++[(kv.1,kv.2)]) (by simpa using h)];simp
abbrev PZ(H:Hp)(ts:List Addr)(kvs:List (Key×V)):Prop:=Paired (fun t(kv:Key×V)=>H t=some (.tup [kV kv.1,kv.2])) ts kvs
abbrev kZ(ns:Ag):List (Key×V):=bj ns
def IQ(zs:Ag)(x y:Int):kZ (zs++[(x,y)])=kZ zs++[((Sum.inl x:Key),V.int y)]:=by unfold kZ bj;rw[Av,Av];rfl
def dU{c d:Type}{R:c->d->Prop}:∀{l:List c}{m:List d}{a:c}{b:d},Paired R l m->R a b->Paired R (l++[a]) (m++[b])
 |_,_,_,_,.nil,r=>.cons r .nil
 |_,_,_,_,.cons q t,r=>.cons q (dU t r)
section
variable{P:Program}{w:World}{K:Ae}{mg:Str->Option Value}{base:Heap}
def IR{p:Addr}{c:St}{H2:Hp}{L D:Addr}{xs:List Int}{te:TE}{R:Int×Int->Prop}{Q:VK}(hb:zD H2 p)(E:H2 L=some (.lst (xs.map V.int)))(I:L≠p)(hz:xs.length<=1000)(J:∀(x:Int)(H3:Hp)(F:VK),x∈xs->zx p H2 H3->zD H3 p->(∀(y:Int)(u:Addr)(l:Hp),zx p H3 l->zD l p->R (x,y)->l u=none->F (.ref u) (upd l u (.tup [.int x,.int y])))->te (some (.int x)::c) H3 F)(j:H2 D=none)(k:∀(H3:Hp)(ts:List Addr)(ys:List (Int×Int)),zx p H2 H3->zD H3 p->H3 D=some (.lst (ts.map V.ref))->PZ H3 ts (kZ ys)->ys.map (·.1)=xs->(∀q∈ys,R q)->Q (.ref D) H3):bW (di K L) (cg 0) bq te (none::c) H2 D Q:=by
 refine zI (xs:=xs.map V.int) (fun i σ ys H3=>∃(v:Option V)(ts:List Addr)(zs:List (Int×Int)),σ=v::c/\zx p H2 H3/\zD H3 p/\H3 L=some (.lst (xs.map V.int))/\H3 D=some (.lst ys)/\ys=ts.map V.ref/\PZ H3 ts (kZ zs)/\zs.map (·.1)=xs.take i/\∀q∈zs,R q)
  ⟨none,[],[],rfl,zx.of (Same.new j),hb.same (Same.new j),(Same.new j) _ _ E,za,rfl,.nil,rfl,fun q hq=>nomatch hq⟩ (fun i σ ys H3 ⟨_,_,_,_,_,_,h,_⟩=>SqL.of h) ?_ ?_
 ·rintro i σ ys H3 z hx hi hy ⟨v,ts,zs,rfl,s,d,A,g,rfl,hp,hk,hR⟩
  obtain⟨x,ex,rfl⟩:=kx hx;refine bH (J x H3 _ (An ex) s d fun y u l r G hr hu=>?_);have C:=r _ _ (d.ne g) g;have f:=Same.new (o:=.tup [.int x,.int y]) hu;have H:L≠D:=zl E j;have w:D≠p:=d.ne g;rw[Ab] at hi;refine bb (by rw[Ab];exact zf ω) (by rw[Ab];exact hi) hy (f _ _ C) ⟨_,ts++[u],zs++[(x,y)],rfl,?_,?_,?_,za,by rw[Av];rfl,?_,?_,?_⟩
  ·exact((s.trans r).trans (zx.of f)).then j
  ·exact(G.same f).upd w
  ·rw[zh H];exact f _ _ (r _ _ I A)
  ·rw[IQ]
   refine Paired.mapP (dU (Paired.mapP hp fun b q e=>f _ _ (r _ _ (d.net e) e)) (b:=((Sum.inl x:Key),V.int y)) (a:=u) za) fun b q e=>?_;rw[zh (e8 e (f _ _ C) (by intro z;cases z))];exact e
  ·rw[Av,hk,AX ex];rfl
  ·intro q hq
   rcases List.mem_append.mp hq with z|z
   ·exact hR q z
   ·rw[List.mem_singleton.mp z];exact hr
 ·rintro σ ys H3 ⟨v,ts,zs,rfl,s,d,A,g,rfl,hp,hk,hR⟩
  rw[Ab,take_all] at hk;exact k H3 ts zs s d g hp hk hR
abbrev m6(K:Ae):TE:=dk (ci (iF (aw 1) (aw 0)) (ci (gQ (wy K) (ci (aw 0) bc)) (ci (aw 0) bc)))
def IS{H2:Hp}{L d D:Addr}{as:List Addr}{f:Ξ}{cs:Wd}{Q:VK}(C:SqL K H2 L (as.map V.ref))(u:Tps H2 as f)(hz:f.length<=64)(hd:H2 d=some (.dT (aS cs)))(E:∀p∈f,∃n,wv cs p=some n)(w:H2 D=none)(k:∀(H3:Hp)(ts:List Addr),Same H2 H3->H3 D=some (.lst (ts.map V.ref))->Paired (dS H3) ts (f.map (wk cs))->Q (.ref D) H3):bW (di K L) (cg 0) bq (m6 K) [none,some (.ref d)] H2 D Q:=by
 have F:=u.length;refine zI (xs:=as.map V.ref) (fun j σ ys H3=>∃(v:Option V)(ts:List Addr),σ=[v,some (.ref d)]/\Same H2 H3/\H3 D=some (.lst ys)/\ys=ts.map V.ref/\Paired (dS H3) ts ((f.map (wk cs)).take j)) ?_ ?_ ?_ ?_
 ·exact⟨none,[],rfl,Same.new w,za,rfl,by rw[List.take_zero];exact .nil⟩
 ·rintro j σ ys H3 ⟨v,ts,rfl,a,h,rfl,_⟩
  exact a.seq C
 ·rintro j σ ys H3 x hx y hy ⟨v,ts,rfl,a,h,rfl,hp⟩
  obtain⟨o,A,rfl⟩:=zV hx;obtain⟨q,eq,hq⟩:=u.get A;obtain⟨m,hm⟩:=E q (An eq);have r:(as.map V.ref).length<=sizeLine:=by rw[Ab];exact zf ω
  have e:(f.map (wk cs))[j]?=some (m::(q.length:Int)::q):=by rw[Ak,eq];show some (wk cs q)=_;unfold wk key;rw[hm];rfl
  have g1:DGet H3 d (.ref o) (some (.int m)):=by
   have:=DGet.t (k:=q.map Sum.inl) (b:=o) (a _ _ hd) (by rw[Am];exact a.tp hq)
   rwa [ia,hm] at this
  refine bH ⟨_,rfl,_,rfl,d,_,rfl,g1,_,rfl,o,_,rfl,.inr (SqT.of (a.tp hq)),_,rfl,zf (by simp),fun t i=>?_⟩;rw[show(q.map V.int).length=q.length from Ab _];have g:=Same.new (o:=.tup [.int m,.int (q.length:Int),.ref o]) i;have s:∀{b xs},(upd H3 t (.tup [.int m,.int (q.length:Int),.ref o])) b=some (.tup xs)->b≠D:=fun{b xs} e z=>by rw[z,g _ _ h] at e;cases e
  refine bb r y hy (g _ _ h) ⟨_,ts++[t],rfl,(a.trans g).then w,za,by rw[Av];rfl,?_⟩;rw[AX e];refine Paired.mapP (dU (Paired.mapP hp fun b l ⟨n,m,c,ps,e1,e2,e3⟩=>(show dS _ b l from⟨n,m,c,ps,e1,g _ _ e2,g.tp e3⟩)) (show dS _ t _ from⟨m,(q.length:Int),o,q,rfl,za,g.tp (a.tp hq)⟩)) fun b l ⟨n,m,c,ps,e1,e2,e3⟩=>?_;exact⟨n,m,c,ps,e1,by rw[zh (s e2)];exact e2,by show _=_;rw[zh (s e3)];exact e3⟩
 ·rintro σ ys H3 ⟨v,ts,rfl,a,h,rfl,hp⟩
  rw[Ax (by rw[Ab,Ab];omega)] at hp;exact k H3 ts a h hp
def fX{H2:Hp}{L D:Addr}{ts:List Addr}{ls:Ξ}{Q:VK}(w:SqL K H2 L (ts.map V.ref))(q:Paired (dS H2) ts ls)(hz:ls.length<=64)(g:H2 D=none)(k:∀(H3:Hp)(bs:List Addr),Same H2 H3->H3 D=some (.lst (bs.map V.ref))->Tps H3 bs (ls.map (·.drop 2))->Q (.ref D) H3):bW (di K L) (cg 0) bq (da (eE K) (aw 0) (tC (.int 2))) [none] H2 D Q:=by
 have s:=A7 q;refine zI (xs:=ts.map V.ref) (fun j σ ys H3=>∃(v:Option V)(bs:List Addr),σ=[v]/\Same H2 H3/\H3 D=some (.lst ys)/\ys=bs.map V.ref/\Tps H3 bs ((ls.map (·.drop 2)).take j)) ?_ ?_ ?_ ?_
 ·exact⟨none,[],rfl,Same.new g,za,rfl,by rw[List.take_zero];exact .nil⟩
 ·rintro j σ ys H3 ⟨v,bs,rfl,a,d,rfl,_⟩
  exact a.seq w
 ·rintro j σ ys H3 x hx r hy ⟨v,bs,rfl,a,d,rfl,hp⟩
  obtain⟨o,h,rfl⟩:=zV hx;have u:j<ls.length:=by rw[<-s];exact(List.getElem?_eq_some_iff.mp h).1
  have i:ls[j]?=some ls[j]:=Af u;obtain⟨n,m,c,ps,e1,e2,e3⟩:=jB q j o _ h i;have f:(ts.map V.ref).length<=sizeLine:=by rw[Ab];exact zf ω
  have e:(ls.map (·.drop 2))[j]?=some ps:=by rw[Ak,i,e1];rfl
  refine bH ⟨_,rfl,o,_,2,.ref c,rfl,rfl,SqT.of (a _ _ e2),rfl,?_⟩;refine bb f r hy d ⟨_,bs++[c],rfl,a.then g,za,by rw[Av];rfl,?_⟩;rw[AX e];refine dU (Paired.mapP hp fun b l e'=>?_) ?_
  ·show _=_
   rw[zh (fun z=>by have p:H3 b=some (.tup (l.map V.int)):=e';rw[z,d] at p;cases p)];exact e'
  ·show _=_
   rw[zh (zl e3 g)];exact a.tp e3
 ·rintro σ ys H3 ⟨v,bs,rfl,a,d,rfl,hp⟩
  rw[Ax (by rw[Ab,Ab];omega)] at hp;exact k H3 bs a d hp
def qI(H:Hp)(t:Addr)(kv:List Key×V):Prop:=∃b,H t=some (.tup [.ref b,kv.2])/\H b=some (.tup (kv.1.map kV))
abbrev m9(K:Ae)(te:TE):TE:=dk (ci (aw 0) (ci te bc))
def IT{H2:Hp}{L d D:Addr}{as:List Addr}{g:Ξ}{ns:Ag}{te:TE}{Q:VK}(I:SqL K H2 L (as.map V.ref))(y:Tps H2 as g)(hz:g.length<=64)(hd:H2 d=some (dA ns))(J:∀(q:List Int)(a:Addr)(H3:Hp)(C:VK),q∈g->Tp H3 a q->H3 d=some (dA ns)->(∀h,Same H3 h->C (.int (gA ns q)) h)->te [some (.ref a),some (.ref d)] H3 C)(A:H2 D=none)(k:∀(H3:Hp)(ts:List Addr),Same H2 H3->H3 D=some (.lst (ts.map V.ref))->Paired (qI H3) ts (aS (cX ns g))->Q (.ref D) H3):bW (di K L) (cg 0) bq (m9 K te) [none,some (.ref d)] H2 D Q:=by
 have M:=y.length;refine zI (xs:=as.map V.ref) (fun j σ ys H3=>∃(v:Option V)(ts:List Addr),σ=[v,some (.ref d)]/\Same H2 H3/\H3 D=some (.lst ys)/\ys=ts.map V.ref/\Paired (qI H3) ts ((aS (cX ns g)).take j)) ?_ ?_ ?_ ?_
 ·exact⟨none,[],rfl,Same.new A,za,rfl,by rw[List.take_zero];exact .nil⟩
 ·rintro j σ ys H3 ⟨v,ts,rfl,f,p,rfl,_⟩
  exact f.seq I
 ·rintro j σ ys H3 x hx F hy ⟨v,ts,rfl,f,p,rfl,hp⟩
  obtain⟨o,G,rfl⟩:=zV hx;obtain⟨q,eq,hq⟩:=y.get G;have s:(as.map V.ref).length<=sizeLine:=by rw[Ab];exact zf ω
  have e:(aS (cX ns g))[j]?=some ((q.map Sum.inl:List Key),V.int (gA ns q)):=by unfold aS cX;rw[Ak,Ak,eq];rfl
  refine bH ⟨_,rfl,J q o H3 _ (An eq) (f.tp hq) (f _ _ hd) fun h E=>⟨zf (by simp),fun t r=>?_⟩⟩;have H:=Same.new (o:=.tup [.ref o,.int (gA ns q)]) r;have i:=E.trans H;have u:=i _ _ p;have w:∀{b xs},(upd h t (.tup [.ref o,.int (gA ns q)])) b=some (.tup xs)->b≠D:=fun{b xs} e z=>by rw[z,u] at e;cases e
  refine bb s F hy u ⟨_,ts++[t],rfl,(f.trans i).then A,za,by rw[Av];rfl,?_⟩;rw[AX e];refine Paired.mapP (dU (Paired.mapP hp fun b l ⟨c,e1,e2⟩=>(show qI (upd h t (.tup [.ref o,.int (gA ns q)])) b l from⟨c,i _ _ e1,i _ _ e2⟩)) (show qI (upd h t (.tup [.ref o,.int (gA ns q)])) t ((q.map Sum.inl:List Key),V.int (gA ns q)) from⟨o,za,by rw[Am];exact i.tp (f.tp hq)⟩)) fun b l ⟨c,e1,e2⟩=>?_;exact⟨c,by rw[zh (w e1)];exact e1,by rw[zh (w e2)];exact e2⟩
 ·rintro σ ys H3 ⟨v,ts,rfl,f,p,rfl,hp⟩
  rw[Ax (by unfold aS cX;rw[Ab,Ab,Ab];omega)] at hp;exact k H3 ts f p hp
end
def CB{l m:Ξ}(hp:l.Perm m)(h1:l.Pairwise fun a b=>HT.lexLt b a=false)(h2:m.Pairwise fun a b=>HT.lexLt b a=false):l=m:=
 List.Perm.eq_of_pairwise (fun a b _ _ g1 g2=>vP _ _ g2 g1) h1 h2 hp
def IU{l m:List Int}(hp:l.Perm m)(h1:l.Pairwise (·<=·))(h2:m.Pairwise (·<=·)):l=m:=
 List.Perm.eq_of_pairwise (fun a b _ _ g1 g2=>Int.le_antisymm g1 g2) h1 h2 hp
def IV(cs:Wd)(p:List Int):(wk cs p).drop 2=p:=rfl
def IW{cs:Wd}{d:Ξ}{ls:Ξ}(hp:ls.Perm (d.map (wk cs)))(hs:ls.Pairwise fun a b=>HT.lexLt b a=false):wX cs d (ls.map (·.drop 2)):=fun os c=>by
 have e:os.map (wk cs)=ls:=CB ((c.1.map _).trans hp.symm) (by rw[AW];exact c.2) hs;rw[<-e,Am];exact((AO fun p _=>IV cs p).trans (List.map_id' _)).symm
def IX(pss:Ξ):(bT (canon pss)).Pairwise (·<=·):=by
 unfold bT;rw[AW];refine((o9 pss).filter _).imp_of_mem fun{a b} c hb h=>?_;have d:=of_decide_eq_true (List.mem_filter.mp c).2;have f:=of_decide_eq_true (List.mem_filter.mp hb).2;obtain⟨x,rfl⟩:=List.length_eq_one_iff.mp d;obtain⟨y,rfl⟩:=List.length_eq_one_iff.mp f;have:=iX.mp h;unfold key at this;rw[HT.zv,if_pos (show(([y].length:Nat):Int)=(([x].length:Nat):Int) from rfl),HT.zv] at this;show x<=y
 by_cases e:y=x
 ·omega
 ·rw[if_neg e] at this
  have:=of_decide_eq_false this;omega
end K63
end
section
namespace L2
open PySem PySem.Spec PyProof.Rows
def CC{K:Ae}{x:Str}{f c P:Addr}{d cc:Value}{e g:Option Addr}{b h:Array (Option Value)}{fd:FuncData}{vs:Array Value}(a:PySem.W.nsIn K mainGlobals x=some (some (.ref f)))(l:K.lookup f=some ⟨d,e,.func fd,b⟩)(hc:fd.code=.ref c)(m:K.lookup c=some ⟨cc,g,.fields vs,h⟩)(i:(vs[11]?:Option Value)=some (.ref P)):PySem.W.tabIn K x=some (c,P):=by
 unfold PySem.W.tabIn;rw[a];simp only[l,hc,m,i]
def IY{K:Ae}{x:Str}{st:Stmt}{f c P:Addr}{fd:FuncData}(F:Fun K x x st f fd)(a:PySem.W.nsIn K mainGlobals x=some (some (.ref f)))(t:PySem.W.tabIn K x=some (c,P)):fd.code=.ref c:=by
 obtain⟨d,e,kV,g,h,i,b,ct,j,rfl,lk,l⟩:=F.ex;unfold PySem.W.tabIn at t;rw[a] at t;simp only[lk] at t;cases b with
 |ref c2=>
  simp only at t;split at t
  ·split at t
   ·cases t;rfl
   ·cases t
  ·cases t
 |_=>cases t
end L2
end
section
namespace K63
open K1
open PySem L2 STb
abbrev cv:Stmt:=top 46
abbrev iw:List Str:=["script","box","web","known","worths","due","ranked","ones","ages"]
def gG:zw iw ["script"] (ze cv):=⟨rfl,rfl,rfl,δ,rfl,δ,δ⟩
abbrev IZ(K:Ae):List V->Hp->VK->Prop:=fun xs H Q=>∃(l:Addr)(ns:List Int),xs=[.ref l]/\SqL K H l (ns.map V.int)/\ns≠[]/\∀M,M∈ns->(∀a∈ns,a<=M)->Q (.int M) H
abbrev w5(K:Ae):TE:=gQ (IZ K) (ci (kd (k4 K (aw 0)) [none,some 1] (cg 0) bq eR) bc)
abbrev I0:TE:=dk (ci (aw 0) (ci (da (eu fun i j=>.int (i-j)) (jY iS [] E0 (ci (aw 1) (ci (tC (.int 9)) bc))) (tC (.int 4))) bc))
def w6(K:Ae)(P:Program)(w:World):Sp:=fun vs H Q E=>mC K P w vs H Q E\/mH K vs H Q E
def qL(K:Ae)(Pt:Addr):Sp:=fun vs H Q _=>∃(a:Addr)(ns:List Int),vs=[.ref a]/\SqL K H a (ns.map V.int)/\ns.length<=63/\H Pt=some (.tbl #[])/\∀H',Q (.bl true) H'
def Tab.box{H H':Hp}{P p:Addr}{pos:Pos}{q:Str}(t:Tab H P pos q)(a:zx p H H')(hb:zD H p):Tab H' P pos q:=by
 obtain⟨x,y,e,_⟩:=hb;have np:P≠p:=fun z=>by subst z;rcases t with e'|⟨_,e',_⟩<;>(rw[e] at e';cases e')
 rcases t with e1|⟨c,e1,b,vs,d,e2,r⟩
 ·exact .inl (a _ _ np e1)
 ·exact .inr ⟨c,a _ _ np e1,b,vs,d,a _ _ (fun z=>by subst z;rw[e] at e2;cases e2) e2,r⟩
structure Z(H:Hp)(Pt p O KN:Addr)(os ks:List Addr)(pss:Ξ):Prop where
 hb:zD H p
 hO:H O=some (.lst (os.map V.ref))
 ho:Tps H os pss
 hK:H KN=some (.lst (ks.map V.ref))
 hk:Tps H ks (canon pss)
 tb:Tab H Pt eB qO
section
variable{P:Program}{w:World}{K:Ae}{mg:Str->Option Value}{base:Heap}{f Pt p O KN:Addr}{fd:FuncData}{H H':Hp}{os ks:List Addr}{pss:Ξ}
def Z.same(z:Z H Pt p O KN os ks pss)(s:Same H H'):Z H' Pt p O KN os ks pss:=⟨z.hb.same s,s _ _ z.hO,s.tps z.ho,s _ _ z.hK,s.tps z.hk,z.tb.same s⟩
def Z.box(z:Z H Pt p O KN os ks pss)(s:zx p H H')(b:zD H' p):Z H' Pt p O KN os ks pss:=⟨b,s _ _ (z.hb.ne z.hO) z.hO,s.tps z.hb z.ho,s _ _ (z.hb.ne z.hK) z.hK,s.tps z.hb z.hk,Tab.box z.tb s z.hb⟩
def Z.far(z:Z H Pt p O KN os ks pss)(s:zH H H')(t:Tab H' Pt eB qO):Z H' Pt p O KN os ks pss:=⟨(by obtain⟨x,y,e,o⟩:=z.hb;exact⟨x,y,s.list e,o⟩),s.list z.hO,s.tps z.ho,s.list z.hK,s.tps z.hk,t⟩
def CD{H:Hp}{as:List Addr}{l:Ξ}(t:Tps H as l)(h:∀k∈l,k≠[]):Paired (ii H) as l:=by
 induction t with
 |nil=>exact .nil
 |cons e t ih=>exact .cons ⟨e,h _ AB⟩ (ih fun k hk=>h k (Ay _ hk))
def I_{R:Addr->List Int->Prop}{a:List (List Int×Addr)}{l:Ξ}{as:List Addr}(hp:∀q∈a,q∈l.zip as)(b:Paired R as l):Paired R (a.map (·.2)) (a.map (·.1)):=by
 induction a with
 |nil=>exact .nil
 |cons q a ih=>
  refine .cons ?_ (ih fun x hx=>hp x (Ay _ hx));obtain⟨i,e⟩:=List.mem_iff_getElem?.mp (hp q AB);obtain⟨e1,e2⟩:=List.getElem?_zip_eq_some.mp e;exact jB b i _ _ e2 e1
def Ja{p r:List Int}(h:r∈rims p):r.length<p.length:=by
 unfold rims at h;split at h
 ·cases h
 ·obtain⟨j,a,rfl⟩:=List.mem_map.mp h
  have:=List.mem_range.mp a;rw[AC,AM,List.length_drop];omega
def Jb(pss:Ξ):B6 (canon pss):=fun i q eq r hr=>by
 have hq:=An eq;obtain⟨j,a⟩:=List.mem_iff_getElem?.mp (wH hq hr);have f:=Ja hr;obtain⟨hi,c⟩:=List.getElem?_eq_some_iff.mp eq;obtain⟨d,b⟩:=List.getElem?_eq_some_iff.mp a;have e:j<i:=by
  rcases Nat.lt_trichotomy j i with h|h|h
  ·exact h
  ·subst h
   rw[eq] at a;obtain rfl:=Al a;omega
  ·have:=iX.mp (List.pairwise_iff_getElem.mp (o9 pss) i j hi d h)
   rw[c,b] at this;unfold key at this;rw[HT.zv,if_neg ω] at this;have:=of_decide_eq_false this;omega
 exact List.mem_take_iff_getElem.mpr ⟨j,ω,b⟩
def w9{pss:Ξ}:∀q∈canon pss,q≠[]:=fun q hq=>by
 obtain⟨t,_,a⟩:=List.mem_flatMap.mp (hF.mp hq);exact(zO.mp a).1
def Jc(F:Fun K "law" "law" cv f fd)(B:Bt mg)(cY:mg "dict"=none)(jR:mg "max"=none)(Cc:Cl P w K mg base aC "_law_cell_at" ["script","k"] 1 (yZ K))(Cb:Cl P w K mg base aC "_law_box" ["cell"] 1 y6)(Ct:Cl P w K mg base aC "_law_take" ["box","most"] 1 iS)(Cw:Cl P w K mg base aC "_law_web" ["box"] 3 y9)(ug:Cl P w K mg base aC "_law_pieces" ["web"] 2 (l5 K))(uX:Cl P w K mg base aC "_law_worths" ["box","known"] 2 (B7 K))(lm:Cl P w K mg base aC "_law_turned" ["box","worths","other"] 2 (w6 K P w))(ue:Cl P w K mg base aC "_law_falls" ["known","worths"] 2 (Cm K))(jF:Cl P w K mg base aC "_law_right" ["way","web","worths","due"] 12 (mR K P w Pt)):FnOk P w K mg base aC 13 f fd ["script"] (qL K Pt):=by
 refine F.ok gG (fun vs H Q E h=>?_) (fun aq A outer s H vs Q E hr h=>?_)
 ·obtain⟨a,ns,rfl,_⟩:=h;rfl
 ·obtain⟨a,nn,rfl,hS,hn,pW,k⟩:=h
  have hu:=ey hr;have aE:=hr.units;have R9:∃X,PSs (a0 aC P w K mg base iw "law" (ze cv) f aq A outer s H E).nox (List.drop 9 (zL cv)) X/\
    ∀(p O KN D Y N:Addr)(os ks:List Addr)(pss:Ξ)(ns:Ag)(j:V)(v:Option V)(H2:Hp),Z H2 Pt p O KN os ks pss->du pss->(canon pss).length<=56->H2 Y=some (.lst ((bT (canon pss)).map V.int))->H2 N=some (dA ns)->(keysA ns).Nodup->ns.length<=57->
     X {nx:=fun _ H'=>Q .non H',rt:=Q} [some (.ref a),some (.ref p),some (.ref O),some (.ref KN),some (.ref D),some j,v,some (.ref Y),some (.ref N)] H2:=by
   refine⟨_,zb (zP (zk (wR aE) (zi t1 rfl B.sorted gj (ac (zq (tI rfl) rfl B.list er (ac (pv 8) ai)) ai)) (pv 7) (al _)) (zd (zn (zT jF hr rfl ao (ac zg (ac (pv 2) (ac (pv 8) (ac pe_str ai))))))) zt)
    (zd (zn (zT jF hr rfl ao (ac zg (ac (pv 2) (ac (pv 8) (ac (zq (wY rfl aE) rfl cY fu (ac (zy iw ["piece","ages"] [none,some 8] (zA (pv 3)) (fun d C s₀ H₀ ex=>zr (i:=0) (cK ["piece","ages"]) rfl (Or.inl rfl)) (fun d C s₀ H₀ ex=>zS)
     (fun d C s₀ H₀ ex=>fB (ac (pv 0) (ac (zi (v4 rfl) rfl jR wI (ac (zy ["piece","ages"] ["point","ages"] [none,some 1] (k7 (pv 0)) (fun d C s₀ H₀ ex=>zr (i:=0) (cK ["point","ages"]) rfl (Or.inl rfl)) (fun d C s₀ H₀ ex=>zS) (fun d C s₀ H₀ ex=>fE hu (pv 1) (pv 0) (fun _ _=>rfl)) (hfr:=IF rfl δ) (te:=eR)) ai)) ai))) (hfr:=b9 (ze cv) δ) (te:=m9 K (w5 K))) ai)) ai))))))),?_⟩
   intro p O KN D Y N os ks pss ns j v H2 z hw g j4 lw nd j5;have ek:((bj ns).map fun kv=>kV kv.1)=(keysA ns).map V.int:=by unfold bj keysA;rw[Am,Am,Am];rfl
   have kz:(keysA ns).length=ns.length:=Ab _;refine⟨_,rfl,N,bj ns,rfl,lw,fun L hL=>?_⟩;rw[ek];have s1:=Same.new (o:=.lst ((keysA ns).map V.int)) hL;refine⟨L,keysA ns,rfl,SqL.of za,ω,fun SK ms hp hs uj=>?_⟩;have J:=s1.trans (Same.new (o:=.lst (ms.map V.int)) uj);refine⟨_,rfl,SK,Y,ms,bT (canon pss),rfl,rfl,SqL.of za,SqL.of (J _ _ j4),_,rfl,?_⟩;have bV:(keysA ns).Perm (bT (canon pss))↔ms=bT (canon pss):=⟨fun h=>IU (hp.trans h) hs (IX pss),fun h=>by rw[<-h];exact hp.symm⟩;have z2:=z.same J;have gg:=J _ _ lw;generalize upd (upd H2 L (.lst ((keysA ns).map V.int))) SK (.lst (ms.map V.int))=H3 at J z2 gg;have W:WA K H3 O N os pss ns:=⟨SqL.of z2.hO,z2.ho,hw,g,gg,nd,j5⟩
   by_cases e:ms=bT (canon pss)
   ·rw[decide_eq_true e]
    have hg:=bV.mpr e;have hn:∀q∈canon pss,∀x∈q,∃n,av ns x=some n:=fun q hq x hx=>p9 (hg.mem_iff.mpr (BR hq hx));refine aB ⟨_,rfl,_,rfl,_,rfl,KN,rfl,⟨_,SqL.of z2.hK⟩,fun D3 aj=>zF (IT (SqL.of z2.hK) z2.hk ω gg (fun q b H4 Q' hq hb dJ kk=>?_) aj fun H4 ts s4 bC oA=>?_)⟩
    ·refine⟨_,rfl,b,rfl,⟨_,SqT.of hb⟩,fun D5 dX=>zF (BS hb (mv hw.1 q hq) dJ (hn q hq) dX fun H5 s5 nv=>⟨D5,_,rfl,SqL.of nv,?_,fun M hM fY=>?_⟩)⟩
     ·intro z'
      have:q=[]:=List.map_eq_nil_iff.mp z';subst this;obtain⟨t,_,i8⟩:=List.mem_flatMap.mp (hF.mp hq);exact(zO.mp i8).1 rfl
     ·have eM:gA ns q=M:=BP hM fY
      rw[<-eM];exact kk H5 s5
    ·refine⟨D3,ts,aS (cX ns (canon pss)),rfl,SqL.of bC,oA,fun U hU=>?_⟩
     have ef:mZ (aS (cX ns (canon pss)))=aS (cX ns (canon pss)):=by
      unfold mZ;rw[w4 _ _ ?_]
      ·simp
      ·rw[List.nil_append,gu]
       have:(cX ns (canon pss)).map (·.1)=canon pss:=by unfold cX;rw[Am];exact List.map_id' _
       rw[this];exact List.Pairwise.map _ (fun a b(h:a≠b) e=>h (wx e)) (zR pss)
     rw[ef];have s5:=s4.trans (Same.new (o:=.dT (aS (cX ns (canon pss)))) hU);refine⟨z2.tb.same s5,fun H' _ _=>k H',.inr (.inr (.inl ⟨O,N,U,os,pss,ns,rfl,⟨s5.seq W.hl,s5.tps W.ht,hw,g,s5 _ _ gg,nd,j5⟩,hg,za⟩))⟩
   ·rw[decide_eq_false e]
    refine aT ⟨_,rfl,_,rfl,z2.tb,fun H' _ _=>k H',.inr (.inr (.inr ⟨O,N,os,pss,ns,rfl,W,fun h=>e (bV.mp h)⟩))⟩
  obtain⟨vO,mW,jX⟩:=R9;have R7:∃X,PSs (a0 aC P w K mg base iw "law" (ze cv) f aq A outer s H E).nox (List.drop 7 (zL cv)) X/\
    ∀(p O KN D:Addr)(os ks:List Addr)(pss:Ξ)(j:V)(v:Option V)(H2:Hp),Z H2 Pt p O KN os ks pss->du pss->(canon pss).length<=56->
     X {nx:=fun _ H'=>Q .non H',rt:=Q} [some (.ref a),some (.ref p),some (.ref O),some (.ref KN),some (.ref D),some j,v,none,none] H2:=by
   refine⟨_,zb (wP (i:=7) gG.nd rfl (Or.inl rfl) iw ["piece"] [none] (zA (pv 3)) (fun d C s₀ H₀ ex=>zr (i:=0) (cK ["piece"]) rfl (Or.inl rfl)) (fun d C s₀ H₀ ex=>lC (zk c5 (zi zm rfl B.len dh (ac (pv 0) ai)) zg (al _))) (fun d C s₀ H₀ ex=>bO j3 (pv 0) zg (fun _ _=>rfl)) (hfr:=cS δ) (tc:=wF K) (te:=wG K))
    (zb (zu (i:=8) gG.nd rfl (Or.inr rfl) (zT lm hr rfl ao (ac (pv 1) (ac (zq (wZ rfl aE) rfl cY fu (ac (zy iw ["point","box"] [none,some 1] (zA (pv 7)) (fun d C s₀ H₀ ex=>zr (i:=0) (cK ["point","box"]) rfl (Or.inl rfl)) (fun d C s₀ H₀ ex=>zS)
     (fun d C s₀ H₀ ex=>fB (ac (pv 0) (ac (zz jg (zT Ct hr rfl ao (ac (pv 1) (ac zg ai))) zg) ai))) (hfr:=b9 (ze cv) δ) (te:=I0)) ai)) (ac zg ai))))) mW),?_⟩
   intro p O KN D os ks pss j v H2 z hw g;refine⟨_,rfl,KN,rfl,⟨_,SqL.of z.hK⟩,fun Y j4=>zF (BK (SqL.of z.hK) z.hk ω j4 fun H3 s3 im=>?_)⟩;have z3:=z.same s3;have iq:Y≠p:=fun e=>by
    obtain⟨x,y,eb,_⟩:=z.hb;rw[e,eb] at j4;cases j4
   have pl:(bT (canon pss)).length<=56:=by unfold bT;rw[Ab];exact AF (List.length_filter_le _ _) g
   refine⟨_,rfl,_,rfl,Y,rfl,⟨_,SqL.of im⟩,fun D3 aj=>zF (IR (R:=fun _=>True) z3.hb im iq ω (fun x H4 Q' hx bG bB q=>?_) aj fun H5 ts ys b0 bL h5 pz hk _=>?_)⟩
   ·exact⟨_,rfl,_,rfl,p,9,rfl,bB,ξ,ξ,fun r H7 _ _ dG gR=>⟨_,_,rfl,rfl,zf (by simp),fun u dm=>q (r-4) u H7 dG gR trivial dm⟩⟩
   ·refine⟨D3,ts,bj ys,rfl,SqL.of h5,pz,fun AD uC=>?_⟩
    have ny:(keysA ys).Nodup:=by unfold keysA;rw[hk];exact BV
    have ef:foldZ (bj ys)=bj ys:=by
     unfold foldZ;rw[w4 _ _ ?_]
     ·simp
     ·rw[List.nil_append]
      have:(bj ys).map (·.1)=(keysA ys).map Sum.inl:=by unfold bj keysA;rw[Am,Am,Am];rfl
      rw[this];exact List.Pairwise.map _ (fun a b(h:a≠b) e=>h (Sum.inl.inj e)) ny
    rw[ef];have s6:=Same.new (o:=.dK (bj ys)) uC;have z6:=(z3.box b0 bL).same s6;have yl:ys.length<=56:=by have:=congrArg List.length hk;rw[Ab] at this;omega
    refine .inr ⟨p,AD,ys,rfl,z6.hb,za,ny,yl,fun N H7 ns dG gR _ lw tz=>?_⟩;have vR:=tz.len;exact jX p O KN D Y N os ks pss ns j v H7 (z6.box dG gR) hw g (dG _ _ iq (s6 _ _ (b0 _ _ iq im))) lw tz.nd ω
  obtain⟨sf,oz,kB⟩:=R7;have R6:∃X,PSs (a0 aC P w K mg base iw "law" (ze cv) f aq A outer s H E).nox (List.drop 6 (zL cv)) X/\
    ∀(p O KN D:Addr)(os ks:List Addr)(pss:Ξ)(cs:Wd)(j:V)(v:Option V)(H2:Hp),Z H2 Pt p O KN os ks pss->du pss->(canon pss).length<=56->H2 D=some (.dT (aS cs))->(zM cs).Nodup->cs.length<=57->((zM cs).map (Aq (intKind P w))).Nodup->
     ((j=.str "order"/\¬dy (canon pss) cs)\/(dy (canon pss) cs/\∃u us dl,j=.ref u/\H2 u=some (.lst (us.map V.ref))/\Tps H2 us dl/\wX cs (canon pss) dl))->
     X {nx:=fun _ H'=>Q .non H',rt:=Q} [some (.ref a),some (.ref p),some (.ref O),some (.ref KN),some (.ref D),some j,v,none,none] H2:=by
   refine⟨_,zb (zP (dY (et (zT jF hr rfl ao (ac zg (ac (pv 2) (ac (pv 4) (ac (pv 5) ai))))))) (zd (zn zY)) zt) oz,?_⟩;intro p O KN D os ks pss cs j v H2 z hw g hD nc j5 hh hv;have W:WO K H2 O D os pss cs:=⟨SqL.of z.hO,z.ho,hw,g,hD,nc,j5⟩;have fin:∀H',zH H2 H'->Tab H' Pt eB qO->sf {nx:=fun _ H'=>Q .non H',rt:=Q} [some (.ref a),some (.ref p),some (.ref O),some (.ref KN),some (.ref D),some j,v,none,none] H':=fun H' s t=>kB p O KN D os ks pss j v H' (z.far s t) hw g;refine⟨_,rfl,_,rfl,_,rfl,z.tb,fun H' s t=>⟨_,rfl,aB (fin H' s t)⟩,?_⟩;rcases hv with ⟨rfl,hna⟩|⟨ha,u,us,dl,rfl,hU,hT,hO⟩
   ·exact .inr (.inl ⟨O,D,os,pss,cs,rfl,W,hh,hna⟩)
   ·exact .inl ⟨O,D,u,os,us,pss,cs,dl,rfl,W,hh,ha,hU,hT,hO⟩
  obtain⟨oZ,fJ,bu⟩:=R6;refine⟨_,zb (zu (i:=1) gG.nd rfl (Or.inr rfl) (zT Cb hr rfl ao (ac (zT Cc hr rfl ao (ac (pv 0) (ac zg ai))) ai)))
   (zb (zu (i:=2) gG.nd rfl (Or.inl rfl) (zT Cw hr rfl ao (ac (pv 1) ai)))
   (zb (zu (i:=3) gG.nd rfl (Or.inl rfl) (zT ug hr rfl ao (ac (pv 2) ai)))
   (zb (zu (i:=4) gG.nd rfl (Or.inr rfl) (zT lm hr rfl ao (ac (pv 1) (ac (zT uX hr rfl ao (ac (pv 1) (ac (pv 3) ai))) (ac (fB (ac zg ai)) ai)))))
   (zb (zu (i:=5) gG.nd rfl (Or.inl rfl) pe_str)
   (zb (zP (zk (Ew aE) (zi (wO aE) rfl B.sorted gj (ac (zq (nX rfl) rfl B.list er (ac (pv 4) ai)) ai)) (zi (wO aE) rfl B.sorted gj (ac (pv 3) ai)) (al _))
    (zd (zP (dY (et (zT ue hr rfl ao (ac (pv 3) (ac (pv 4) ai)))))
     (zb (zu (i:=6) gG.nd rfl (Or.inl rfl) (zi (Ir aE) rfl B.sorted gj (ac (zy iw ["piece","worths"] [none,some 4] (zA (pv 3)) (fun d C s₀ H₀ ex=>zr (i:=0) (cK ["piece","worths"]) rfl (Or.inl rfl)) (fun d C s₀ H₀ ex=>zS)
      (fun d C s₀ H₀ ex=>fB (ac (fE hu (pv 1) (pv 0) (fun _ _=>rfl)) (ac (zi zm rfl B.len dh (ac (pv 0) ai)) (ac (pv 0) ai)))) (hfr:=b9 (ze cv) δ) (te:=m6 K)) ai)))
     (zd (wP (i:=5) gG.nd rfl (Or.inl rfl) iw ["one"] [none] (zA (pv 6)) (fun d C s₀ H₀ ex=>zr (i:=0) (cK ["one"]) rfl (Or.inl rfl)) (fun d C s₀ H₀ ex=>zS) (fun d C s₀ H₀ ex=>bO j3 (pv 0) zg (fun _ _=>rfl)) (hfr:=cS δ) (te:=da (eE K) (aw 0) (tC (.int 2)))))) zt)) zt)
   fJ))))),?_⟩
  refine⟨_,rfl,a,nn,rfl,hS,fun n=>⟨n,rfl,fun p x y hp rN=>?_⟩⟩;have ut:Tab (upd H p (.lst [.int x,.int y])) Pt eB qO:=.inl (by rw[zh (zl pW hp)];exact pW);have eQ:zD (upd H p (.lst [.int x,.int y])) p:=⟨x,y,za,rN⟩;refine⟨_,rfl,p,rfl,eQ,fun O os pss H1 cH cZ _ qi cT kw=>?_⟩;obtain⟨hw,oX,hlen⟩:=Gb kw;obtain⟨fR,pY,h5,nz⟩:=pu hw;have g:=Gh kw;refine⟨_,rfl,O,os,pss,rfl,SqL.of qi,cT,h5,ω,ω,fun KN H2 q2 t2=>?_⟩;obtain⟨ks,J,_,pe,kY⟩:=z_ t2;rw[<-o_] at g;have nr:du pss:=⟨hw,ω⟩;have z2:Z H2 Pt p O KN os ks pss:=⟨cZ.same J,J _ _ qi,J.tps cT,pe,kY,(Tab.box ut cH eQ).same J⟩;obtain⟨fn,gn,oQ,vC⟩:=Ih kw;refine⟨_,rfl,_,rfl,_,rfl,p,KN,ks,canon pss,rfl,z2.hb,pe,kY,zR pss,g,mv hw,Jb pss,fun D0 H3 ap eL be cm aj kN=>?_⟩;have z3:=z2.box eL be;refine⟨zf (by simp),fun T hT=>?_⟩;have s4:=Same.new (o:=.tup [.int 99]) hT;have z4:=z3.same s4;have ck:zM ap=canon pss:=kN;have uz:ap.length<=56:=by have:=congrArg List.length ck;unfold zM at this;rw[Ab] at this;omega
  have hin:∀q∈canon pss,InK fn gn q:=fun q hq=>.inl (vC q hq);refine .inl ⟨p,D0,T,ap,rfl,z4.hb,s4 _ _ aj,za,by rw[ck];exact zR pss,uz,by rw[ck];exact w9,by rw[ck];exact B1 oQ (zR pss) hin,fun D H5 cs b0 bL _ dX tw=>?_⟩;have z5:=z4.box b0 bL;have wa:=tw.len;have kin:∀q∈zM cs,q∈canon pss\/q=[99]:=fun q hq=>by rw[<-ck];exact tw.sub q hq
  have hh:((zM cs).map (Aq (intKind P w))).Nodup:=B1 oQ tw.nd fun q hq=>by
   rcases kin q hq with h|h
   ·exact hin q h
   ·exact .inr (by rw[h];decide)
  have hne:∀q∈zM cs,q≠[]:=fun q hq=>by
   rcases kin q hq with h|h
   ·exact w9 q h
   ·rw[h];simp
  have kl:(zM cs).length=cs.length:=Ab _;refine⟨_,rfl,D,aS cs,rfl,dX,fun bs io L hL=>?_⟩;have s6:=Same.new (o:=.lst (bs.map V.ref)) hL;have tk:=s6.tps (B' io);have tl:=tk.length;refine⟨L,bs,zM cs,rfl,SqL.of za,CD tk hne,ω,fun S1 G eY js oO=>?_⟩;have s7:=s6.trans (Same.new (o:=.lst (G.map fun q=>V.ref q.2)) oO);have pS:=(Same.new (o:=.lst (G.map fun q=>V.ref q.2)) oO).tps tk;have c7:=za (H:=upd H5 L (.lst (bs.map V.ref))) (a:=S1) (o:=.lst (G.map fun q=>V.ref q.2));generalize upd (upd H5 L (.lst (bs.map V.ref))) S1 (.lst (G.map fun q=>V.ref q.2))=H7 at s7 pS c7;have z7:=z5.same s7;have we:=z7.hk.length;refine⟨_,rfl,KN,ks,canon pss,rfl,SqL.of z7.hK,CD z7.hk w9,ω,fun S2 S cf hZ rV=>?_⟩;have s8:=Same.new (o:=.lst (S.map fun q=>V.ref q.2)) rV;have e1:(G.map fun q=>V.ref q.2)=(G.map (·.2)).map V.ref:=by rw[Am];rfl
  have e2:(S.map fun q=>V.ref q.2)=(S.map (·.2)).map V.ref:=by rw[Am];rfl
  have z8:=z7.same s8;have ji:=s8 _ _ (s7 _ _ dX);refine .inr ⟨S1,S2,G.map (·.2),S.map (·.2),G.map (·.1),S.map (·.1),rfl,rfl,SqL.of (by rw[s8 _ _ c7,e1]),wT (fun q hq=>eY.mem_iff.mp hq) (s8.tps pS),SqL.of (by rw[za,e2]),wT (fun q hq=>cf.mem_iff.mp hq) (s8.tps z7.hk),_,rfl,?_⟩;rw[if_neg ξ];have p1:=qj eY ω;have p2:=qj cf ω;have pm:(zM cs).Perm (canon pss)↔G.map (·.1)=S.map (·.1):=by
   constructor
   ·intro h
    exact CB ((p1.trans h).trans p2.symm) (by rw[AW];exact js) (by rw[AW];exact hZ)
   ·intro h
    exact(p1.symm.trans (List.Perm.of_eq h)).trans p2
  generalize upd H7 S2 (.lst (S.map fun q=>V.ref q.2))=H8 at s8 z8 ji
  by_cases e:G.map (·.1)=S.map (·.1)
  ·rw[decide_eq_true e]
   have bV:=pm.mpr e;have hn:∀q∈canon pss,∃n,wv cs q=some n:=fun q hq=>mr (bV.mem_iff.mpr hq);refine aT ⟨_,rfl,_,rfl,KN,D,ks,canon pss,cs,rfl,SqL.of z8.hK,z8.hk,g,mv hw,(fun q hq r cB=>wH hq cB),ji,hn,fun b H9 oR s9=>⟨_,rfl,?_⟩⟩;have z9:=z8.same s9;have oE:=s9 _ _ ji;cases b with
   |true=>
    exact aB (bu p O KN D os ks pss cs _ _ H9 z9 nr g oE tw.nd ω hh (.inl ⟨rfl,fun ha=>oR.mp rfl ha.2⟩))
   |false=>
    have hall:∀q∈canon pss,bN cs q:=Classical.byContradiction fun eT=>by have:=oR.mpr eT;cases this
    refine aT ⟨_,rfl,KN,rfl,⟨_,SqL.of z9.hK⟩,fun D7 sZ=>zF (IS (SqL.of z9.hK) z9.hk ω oE hn sZ fun HA ts sA r9 a8=>?_)⟩;have ui:=A7 a8;rw[Ab] at ui;refine⟨D7,ts,_,rfl,SqL.of r9,a8,by rw[Ab];omega,fun RK I p4 tP tW=>?_⟩;have sB:=Same.new (o:=.lst (I.map fun q=>V.ref q.2)) tW;have eq:(I.map fun q=>V.ref q.2)=(I.map (·.2)).map V.ref:=by rw[Am];rfl
    have hRB:(upd HA RK (.lst (I.map fun q=>V.ref q.2))) RK=some (.lst ((I.map (·.2)).map V.ref)):=by rw[za,eq]
    have hpB:Paired (dS (upd HA RK (.lst (I.map fun q=>V.ref q.2)))) (I.map (·.2)) (I.map (·.1)):=I_ (fun q hq=>p4.mem_iff.mp hq) (Paired.mapP a8 fun b l ⟨n,m,c,ps,x1,x2,x3⟩=>⟨n,m,c,ps,x1,sB _ _ x2,sB.tp x3⟩);have pq:=qj p4 (by rw[Ab];omega);have zB:=(z9.same sA).same sB;have pL:=sB _ _ (sA _ _ oE);generalize upd HA RK (.lst (I.map fun q=>V.ref q.2))=HB at sB hRB hpB zB pL;refine⟨_,rfl,RK,rfl,⟨_,SqL.of hRB⟩,fun DU su=>zF (fX (SqL.of hRB) hpB (by rw[pq.length_eq,Ab];omega) su fun HC hJ sC tG tC=>?_)⟩;exact bu p O KN D os ks pss cs _ _ HC (zB.same sC) nr g (sC _ _ pL) tw.nd ω hh (.inr ⟨⟨bV,hall⟩,DU,hJ,_,rfl,tG,tC,IW pq (by rw[AW];exact tP)⟩)
  ·rw[decide_eq_false e]
   exact aB (bu p O KN D os ks pss cs _ _ H8 z8 nr g ji tw.nd ω hh (.inl ⟨rfl,fun ha=>e (pm.mp ha.1)⟩))
end
end K63
end
section
namespace K63
open K1
open PySem L2 STb
def Jd{K:Ae}{C h f1 f2 i j f5:Addr}{l o:Bool}(a:PySem.W.findIn K (.ref C) "__getattribute__"=some (some (.builtin "BaseException.__getattribute__")))(b:PySem.W.findIn K (.ref C) "__getattr__"=some none)(q:PySem.W.excIn K C i3 "ValueError.__new__"=true)(c:PySem.W.findIn K (.ref C) "__class__"=some (some (.builtin "object.__class__")))(d:PySem.W.specialIn K (.builtin "object.__class__") "__get__"=some (some (.builtin "getset_descriptor.__get__")))(e:PySem.W.takesIn K (.builtin "object.__class__")=some true)(f:PySem.W.mroIn K C (.type "object")=some true)(g:PySem.W.mroIn K C (.type "BaseException")=some true)(p:Ba K (.ref C) (.ref h)=some false)(r:Ba K (.ref C) (.ref f1)=some false)(s:Ba K (.ref C) (.ref f2)=some false)(u:Ba K (.ref C) (.ref i)=some l)(v:Ba K (.ref C) (.ref j)=some o)(w:Ba K (.ref C) (.ref f5)=some false)(x:Ba K (.ref C) (.type "ValueError")=some true):Mk K C h f1 f2 i j f5 l o:=⟨HJ a b q c d e f g,p,r,s,u,v,w,x⟩
def Je{l:PySem.W.OpenLaw}{w:World}{K:Ae}{h:Heap}{mg:Str->Option Value}{fa f1 f2 f3 f4 f5 f6 f7 f8 f9 tO rR tJ rX tY vz rg sJ rO uE rY sQ qG qF qY sT rF rZ uM vk rJ o e1 e2 e3 b p eS:Addr}{tp tq tr ts:Tok}(X:K.In h)(G:h.Ns mainGlobals mg)(sw:mg "law"=some (.ref fa)){cO Pt:Addr}(hT:PySem.W.tabIn K "order_by"=some (cO,Pt))(d1:Df K "is_piece" oK f1)(d2:Df K "parts_of" kr f2)(d3:Df K "rims_of" pH f3)(d4:Df K "order_key" eI f4)(d5:Df K "in_order" lZ f5)(d6:Df K "all_parts" sAll f6)(d7:Df K "is_web" oM f7)(d8:Df K "must_be_web" pD f8)(d9:Df K "pieces" pE f9)(lc:Df K "points" wE tO)(qb:Df K "order_by" jS rR)(sU:Df K "are_worths" h_ tJ)(sF:Df K "is_above_rims" p6 rX)(rQ:Df K "worths_by_points" ig tY)(ux:Df K "_law_cell_at" vE vz)(qB:Df K "_law_box" jM rg)(qU:Df K "_law_take" l8 sJ)(qz:Df K "_law_parts" l9 rO)(t9:Df K "_law_pieces" vN uE)(u_:Df K "_law_known" o7 rY)(tS:Df K "_law_named" l' sQ)(ur:Df K "_law_web" jO qG)(uO:Df K "_law_rims" p3 qF)(qy:Df K "_law_which" p8 qY)(u1:Df K "_law_worths" ij sT)(uH:Df K "_law_turned" zN rF)(sR:Df K "_law_falls" ir rZ)(qV:Df K "_law_asked" wV uM)(uS:Df K "_law_right" qr vk)(pN:Df K "law" cv rJ)(gp:Nn K "MOST_POINTS" (some (.int 5 tp)))(gq:Nn K "LAST_POINT" (some (.int 99 tq)))(gr:Nn K "MOST_HANDED" (some (.int 20 tr)))(gs:Nn K "MOST_PIECES" (some (.int 200 ts)))(um:Nn K "NoWeb" (some (.ref o)))(sx:Nn K "NoPiece" (some (.ref e1)))(tU:Nn K "NoPush" (some (.ref e2)))(q:Nn K "NoOrder" (some (.ref e3)))(uY:Nn K "NoNumber" (some (.ref b)))(ud:Nn K "NoChain" (some (.ref p)))(tu:Nn K "SeamError" (some (.ref eS)))(q3:PySem.W.excIn K e3 i3 "ValueError.__new__"=true)(M3:Mk K e3 o e1 e2 e3 b p true false)(M4:Mk K b o e1 e2 e3 b p false true)(S3:hY K e3 eS)(z1:Nn K "len" none)(z2:Nn K "all" none)(z3:Nn K "zip" none)(z4:Nn K "sorted" none)(z5:Nn K "set" none)(z6:Nn K "list" none)(z7:Nn K "tuple" none)(z8:Nn K "range" none)(z9:Nn K "enumerate" none)(uB:Nn K "int" none)(sv:Nn K "isinstance" none)(t8:Nn K "reversed" none)(vn:Nn K "bool" none)(c:Nn K "dict" none)(r:Nn K "max" none)(sP:Nn K "ValueError" none):∃fd:FuncData,(∀(s:Shared)(v:Value),BindsTo s fd ⟨[v],[]⟩ [("script",v)])/\∀base:Heap,K.In base->base.Ns mainGlobals mg->BM mg base->PySem.W.CodeAll [(cO,Pt)] base->FnOk l.prog w K mg base aC 13 fa fd ["script"] (qL K Pt):=by
 cases sw.symm.trans (pN.m X G);have B:Bt mg:=⟨z1.n X G,z2.n X G,z3.n X G,z4.n X G,z5.n X G,z6.n X G,z7.n X G,z8.n X G,z9.n X G,uB.n X G,sv.n X G,t8.n X G,vn.n X G⟩;obtain⟨g1,F1,b1,m1⟩:=d1.g1 X G "numbers";obtain⟨g2,F2,y,z⟩:=d2.g1 X G "piece";obtain⟨g3,F3,b3,m3⟩:=d3.g1 X G "piece";obtain⟨g4,F4,A,C⟩:=d4.g1 X G "piece";obtain⟨g5,F5,D,E⟩:=d5.g1 X G "some";obtain⟨g6,u,F,H⟩:=d6.g1 X G "some";obtain⟨g7,F7,b7,m7⟩:=d7.g1 X G "web";obtain⟨g8,F8,b8,m8⟩:=d8.g1 X G "web";obtain⟨g9,x,I,J⟩:=d9.g1 X G "web";obtain⟨v9,L,qw,vF⟩:=lc.g1 X G "web";obtain⟨v8,g,uN,qN⟩:=qb.g2 X G "web" "worths";obtain⟨vQ,M,se,tL⟩:=sU.g2 X G "every" "worths";obtain⟨vK,N,t7,uV⟩:=sF.g2 X G "piece" "worths";obtain⟨vJ,O,vA,sX⟩:=rQ.g2 X G "web" "ages";obtain⟨wA,Q,uL,ve⟩:=ux.g2 X G "script" "k";obtain⟨vY,S,re,sY⟩:=qB.g1 X G "cell";obtain⟨wd,i,T,U⟩:=qU.g2 X G "box" "most";obtain⟨wo,so,q8,sK⟩:=qz.g1 X G "piece";obtain⟨wg,Y,sI,qZ⟩:=t9.g1 X G "web";obtain⟨vM,q_,uR,nj⟩:=u_.g1 X G "number";obtain⟨wu,rz,qR,qS⟩:=tS.g2 X G "box" "web";obtain⟨vL,pC,t6,uh⟩:=ur.g1 X G "box";obtain⟨vH,ql,vo,uQ⟩:=uO.g1 X G "piece";obtain⟨vT,qe,qt,qP⟩:=qy.g1 X G "e";obtain⟨wc,oW,sW,sO⟩:=u1.g2 X G "box" "known";obtain⟨wb,j,uI,uF⟩:=uH.g3 X G "box" "worths" "other";obtain⟨wm,qf,uJ,rn⟩:=sR.g2 X G "known" "worths";obtain⟨wt,pA,rf,tm⟩:=qV.g3 X G "way" "web" "worths";obtain⟨wz,qk,tZ,u8⟩:=uS.g4 X G "way" "web" "worths" "due";obtain⟨⟨gL,FL⟩,_⟩:=pN;have gK:=IY g qb.a hT;refine⟨gL,?_,fun base _ _ f n6=>?_⟩
 ·obtain⟨_,_,_,_,_,_,_,_,_,rfl,_,_⟩:=FL.ex;exact fun s v=>.of_eq rfl
 have oj:=yW (P:=l.prog) (w:=w) (base:=base) u B F2 y z F5 D E F4 A C;have nE:=Fx (P:=l.prog) (w:=w) (base:=base) F7 B (gp.m X G) (gq.m X G) (gr.m X G) (gs.m X G) F1 b1 m1 u F H F2 y z F5 D E F4 A C;have Gm:=Gr F8 F7 b7 m7 nE;have Gp:=Gs x F8 b8 m8 Gm u F H oj;have Cp:=dD x I J Gp;have ow:=dD L qw vF (HY L B x I J Gp);have Cr:=dD F3 b3 m3 (Gw (P:=l.prog) (w:=w) (base:=base) F3 B);have p7:=dD ql vo uQ (HM (P:=l.prog) (w:=w) (base:=base) ql B);have sV:=dD N t7 uV (HP N B Cr);have rG:=dD M se tL (HS M B sV);have vh:=dD g uN qN (H0 g B gK n6.1 f (q.m X G) q3 Cp rG);have vg:=dD O vA sX (H_ O B (r.n X G) (q.m X G) q3 Cp ow);have d:=dD i T U (vI (P:=l.prog) (w:=w) (base:=base) i);have rH:=HU (P:=l.prog) (w:=w) (base:=base) qe B.isinstance (sP.n X G) (um.m X G) (sx.m X G) (tU.m X G) (q.m X G) (uY.m X G) (ud.m X G) M3 M4;have u3:=dD pA rf tm (II pA (tu.m X G) vh vg qe qt qP rH S3);have jF:=dD qk tZ u8 (IK qk B (c.n X G) u3);have lm:=dD j uI uF ((Ix j B (c.n X G) d).or (Iz j B (c.n X G) d));exact Jc FL B (c.n X G) (r.n X G) (dD Q uL ve (FB Q B)) (dD S re sY (FE S)) d (dD pC t6 uh (FW pC B i T U rz qR qS q_ uR nj)) (dD Y sI qZ (FJ Y B so q8 sK)) (dD oW sW sO (Iw oW B (r.n X G) d p7)) lm (dD qf uJ rn (IH qf B p7)) jF
def walk{l:PySem.W.OpenLaw}{q:Program}{o:List Str}{D:(Str->Option Value)->Heap->Prop}{c:World->Heap->Prop}{d:DefRec}{K:Params->Ae}{b Pt:Addr}(r:l.most=some 63)(v:d.params.defaults=[])(y:∀(w:World)(h:Heap),c w h->(K w.params).In h)(A:∀p,PySem.W.noTabs (K p)=true)(hT:∀p,PySem.W.tabIn (K p) "order_by"=some (b,Pt))(C:((PyProof.Rows.recsOf q).find? (fun e=>e.name==("order_by":Str))).isSome=true)(F:∀(w:World)(mg:Str->Option Value)(fa:Addr)(h:Heap),(K w.params).In h->h.Ns mainGlobals mg->mg d.name=some (.ref fa)->
   ∃fd:FuncData,(∀(s:Shared)(u:Value),BindsTo s fd ⟨[u],[]⟩ [("script",u)])/\∀base:Heap,(K w.params).In base->base.Ns mainGlobals mg->BM mg base->PySem.W.CodeAll [(b,Pt)] base->FnOk l.prog w (K w.params) mg base aC 13 fa fd ["script"] (qL (K w.params) Pt)):
  PySem.W.WalkO q o D c l.row.toRowW d [] (fun f vs=>PySem.call f vs):=
 L2.Hg (n:=63) (k:=13) (x:="script") (CX:=aC) (sp:=fun w=>qL (K w.params) Pt) (tabs:=[(b,Pt)]) (xs:=["order_by"]) r ξ v ⟨rfl,ξ,ξ⟩ y A (fun p=>by show [PySem.W.tabIn (K p) "order_by"]=[some (b,Pt)];rw[hT p]) (fun x hx=>by rw[List.mem_singleton.mp hx];exact C) F
  (fun w H a ns g i j=>⟨a,ns,rfl,i,g,j _ (List.mem_singleton.mpr rfl),fun _=>rfl⟩) fun _ _ _ _ z=>z
end K63
open PySem PySem.W PyProof.Rows
structure PySem.W.Fast:Prop where
 (tw10010299879457558214 tw10028722601656306904 tw10053255272402812748 tw1006891475874696158 tw10082973851795243460 tw10175420530408384069 tw10183223259775268247 tw10258308491960377694 tw10260916975431235914 tw10295978004964373728 tw10331755844793928382 tw10408417554284612935 tw10420146279159924684 tw10453883719080650476 tw1049263266935255594 tw10501930559543351909 tw10518278480734381187 tw10534444533838833913 tw10574265074577173584 tw1059724561454353208 tw10625574379481531466 tw10663070065253486863 tw10737290224178270769 tw10738611621198902672 tw10807629392318177415 tw11018768974378065104 tw11038066766100916808 tw11119041322133210634 tw11185072571701055490 tw11212605864430416707 tw1126809368785352598 tw11286113945289093139 tw11352922878155843654 tw11510214255918047526 tw11582882221735298340 tw1160446510962149532 tw11605680579750497264 tw11723654738682514177 tw11749058300886568933 tw11774609750792744061 tw11824326089206359844 tw11887528426912477274 tw12042461764722796024 tw12042601530918410721 tw12050765287508780480 tw12102496073021676686 tw12107167390174550239 tw12148302051273197913 tw12262643447017608234 tw12322217314802458551 tw12460152386558382169 tw12481944769905998096 tw12494653333653415835 tw12494775784815737056 tw12515630858199659603 tw12564060342515270809 tw12573434843652857774 tw1264792419291045816 tw12738645015601688597 tw12753899747809936013 tw12802023636154501692 tw13027059341168567394 tw13134717095009306612 tw13134972815305970892 tw13177836115061267898 tw13472745930846080279 tw1349821951838221633 tw13507030955738208701 tw13533326970788703943 tw13568144133894266890 tw13571290374781505796 tw13698966000294826428 tw13735600252266757759 tw13783360037993344433 tw14011296576468094436 tw14128390553935784945 tw14133245549972166863 tw14157299310151199984 tw1426138372384466537 tw14331127620173446548 tw1449714572438509133 tw14500626501876949328 tw14617720676245265684 tw14648159090038040269 tw14690448819824317079 tw14726447320056294418 tw14796472421463509867 tw14818183397582713745 tw14819299389208008522 tw14858315891792504533 tw14867573958650689822 tw1487062657956047399 tw14918398168854450827 tw14935438405209637094 tw15077128367152900207 tw15158627579459145892 tw15168412300596223189 tw15188275777335579940 tw15233281627612257826 tw15269856628812871708 tw15284911848745763439 tw15313122313834331879 tw15427188816324495259 tw15443104634075178899 tw15640388258142799315 tw15647519187841339707 tw15648658053318041642 tw15826912708594727926 tw15985213135063155175 tw16325990862988425558 tw16339833593089930128 tw16419935845140060917 tw16423384077728126910 tw16553791121785028920 tw16600019664926583534 tw16638406570350657683 tw16651132976878950831 tw16663663443165665375 tw16748334328816972898 tw16800740315278527318 tw16865366143416551072 tw1689400295783495285 tw16968381050217349494 tw1708909084284952863 tw171504867238530858 tw1727425445906509526 tw17289219678212187308 tw17367965627621120698 tw17459342291542236124 tw17508686516993214726 tw17517738330258671107 tw17551161820917211760 tw17617040503041194187 tw17665564717842717219 tw17690880215980328641 tw17700773884162737056 tw17750626585025323430 tw17797718276593969324 tw17886744633624160861 tw17965404716642388989 tw17981037736491804049 tw18087995330794456597 tw18151795877269502398 tw18158941385443813654 tw18172806866895845270 tw1854822404508191719 tw2035549946366256583 tw214493095888237095 tw2162902016244825796 tw2202679932628217662 tw2283993432888708227 tw2289063607775167767 tw2313345291810320062 tw2315240490158997922 tw2358990926193522931 tw2411672569547177989 tw2491879542820811864 tw2581880982023421223 tw2584107715671393537 tw2596542527729976238 tw2610648710660407790 tw2624301202622481509 tw265934049960831753 tw2663577521203025157 tw2719412597313137772 tw2737728323255954357 tw294482304617492373 tw299118576475502367 tw3066722592631652364 tw3110891586236671378 tw3176194329394182135 tw3188327482459560615 tw3193006436433148411 tw3243275398659807141 tw3263209591377903966 tw3290802388893749971 tw3303012838716898701 tw3408853461493383763 tw3423213372527156702 tw3580194395819211971 tw3689112765569663351 tw3728973943805228225 tw37888241549864705 tw3830127745240257525 tw3839398652556390824 tw388355801057828863 tw3888915548430444640 tw4050208767443518613 tw4080806120337913688 tw4174829129467780288 tw4213095752596170825 tw4246937521644706622 tw4262862259483631267 tw4426567557633501023 tw4464569497177827614 tw4525687214947521309 tw4562631818414738060 tw4586677866895724966 tw4727806867850546371 tw4735374934364119899 tw475016194326842545 tw4781437672212997307 tw4874261825987462781 tw5159605119424306559 tw5236791009819568995 tw5409498099600574323 tw5426851860443894096 tw5443842730143170663 tw5479002338828485672 tw5524038560103939920 tw5529737209123603898 tw5548607736502463465 tw5554029352852012087 tw5648795398572765903 tw5686709800201358494 tw5743384853673925136 tw5860099830362084340 tw595050690462680848 tw6023534149455544616 tw6117924593850212878 tw6162350045924092628 tw6210546938684896496 tw6220102421304867882 tw6222024465253665073 tw6263451907603455293 tw6386528068069542193 tw6390051896434644670 tw6532393062122578190 tw6538846150772660602 tw6550366144538988739 tw6565573248024450642 tw6575645604272136727 tw6939617531289484138 tw7097655179397481935 tw7211124887653987558 tw7329140444561215102 tw7348676875916669756 tw7357954540442480681 tw7368295319145645847 tw741092952675456971 tw7413434258521654572 tw7555993977016266045 tw7577670017010753566 tw7589462126694363487 tw7808521335905316643 tw7813180304175181469 tw7863881653692050102 tw7966804287010390890 tw8454900278193632224 tw8492320204688974878 tw8591697591669960392 tw859785415566617071 tw8677299285568505785 tw8735321973255373433 tw8766269594463153996 tw8827563423074850059 tw8832800121962265762 tw885406277310605641 tw8890117170221304513 tw8955394357909335353 tw9030748653599834827 tw9042206866772210399 tw906821111788071703 tw9118425498812919429 tw9207525921443301363 tw927233991600975146 tw9352418294654566262 tw9421885062035527622 tw9422453756380446317 tw9487412344593173200 tw9512991713398665889 tw9541425018074419632 tw9649660191633032048 tw9653111830783609995 tw9706454683667833884 tw974156286676437813 tw976445014328585727 tw9909847414613145856 tw9915281969813296566:True)
set_option maxRecDepth 100000 in
set_option maxHeartbeats 0 in
theorem PySem.Challenge.cw_seamwright_k63_orders_by_worths_holds : PySem.Challenge.rw_seamwright_k63_orders_by_worths.Holds := by
 w_on; o_law; k_head; (case hw=>w_witness2)
 k_fill
 refine' K63.walk (l:=PySem.Challenge.rw_seamwright_k63_orders_by_worths) rfl rfl (fun w h Y=>PySem.W.km_in_of Y) (fun _=>by kernel_rfl) ?T ?R ?F
 case T=>
  intro p;refine' L2.CC ?a ?l ?c ?m ?v
  (case a=>k_is)
  (case l=>k_is)
  (case c=>rfl)
  (case m=>k_is)
  (case v=>rfl)
 case R=>decide +kernel
 case F=>
  intro w mg fa h KX G gb;refine' K63.Je KX G gb ?_ ?_ ?_ ?_ ?_ ?_ ?_ ?_ ?_ ?_ ?_ ?_ ?_ ?_ ?_ ?_ ?_ ?_ ?_ ?_ ?_ ?_ ?_ ?_ ?_ ?_ ?_ ?_ ?_ ?_ ?_ ?_ ?_ ?_ ?_ ?_ ?_ ?_ ?_ ?_ ?_ ?_ ?_ ?_ ?_ ?_ ?_ ?_ ?_ ?_ ?_ ?_ ?_ ?_ ?_ ?_ ?_ ?_ ?_ ?_ ?_ ?_
  all_goals try first | (refine' L2.CC ?a ?l ?c ?m ?v; (case a=>k_is); (case l=>k_is); (case c=>rfl); (case m=>k_is); (case v=>rfl)) | refine' L2.ww ?_ ?_ ?_ ?_ | refine' L2.Nn.mk ?_ | refine' K63.Jd ?_ ?_ ?_ ?_ ?_ ?_ ?_ ?_ ?_ ?_ ?_ ?_ ?_ ?_ ?_ | refine' L2.Ha ?_ ?_ ?_
  all_goals try first | k_is | kit_is | k_exc
#print axioms PySem.Challenge.cw_seamwright_k63_orders_by_worths_holds
end
