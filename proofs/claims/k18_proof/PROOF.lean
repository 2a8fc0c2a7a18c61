import PyProof.Rows.All
import Wide.All
import OpenK.AllK
import Wide.FinOn
import Lean
import PyProof.EqAt
import PyProof.EqKinds
import PyProof.TupleCall
import PyProof.Rows.SortRuns
import KE.KSortKey
import KE.KListMore
import KE.KIntText
import KE.KEqDat
import PyProof.Rows.CallKwBuiltin
import PySem.SetTable
import PyProof.Rows.SetFrom
import PyProof.TupleKey
import PyProof.IsRules
import KE.KRevIter
import PyProof.ListRange
import PyProof.TupleOfGen
import PyProof.CollectIter
import PySem.Challenge.RW_seamwright_k18_chain_texts_refused
import KE.KDictLaws
import PyProof.DictWalks
import PyProof.SetNew
import PyProof.DictCopy
import PyProof.FactsAll.dict_1
import PyProof.FactsAll.set_2
import PyProof.FactsAll.subtypes_5
import PyProof.DictFindH
import PyProof.MinMaxWalk
import PyProof.SumAny
import PyProof.AttrMissHeap
import PyProof.JoinWalk
import PyProof.Rows.RegReprOcc
import PyProof.Rows.CatFin
import PyProof.MeetsStr
import PyProof.StationsW
import PyProof.ExcClass3
import OpenK.KOwn
import PyProof.ExcArgsOwn
import KE.IntTextLaws
import PyProof.StrOps2
import PyProof.NeKinds
open PySem renaming wpAny_bind->Aa,wpAny_pure->Ac,tupleKeyHash->Aw,IsTupleKey->AH,wpAny_field->AN,wpAny_newObj_type->AS,wpAny_holding->AU,wpAny_dictEntries->AY,wpAny_call_entry->A3,bootBuiltins->A4,wpAny_setField->A8,wpAny_setState_of->Bb,wpAny_mono->Bd
open List renaming length_map->Ab,getElem?_eq_getElem->Af,size_toArray->Aj,mem_cons_self->Am,getElem?_map->Ao,length_cons->Ap,length_append->Aq,map_append->At,mem_cons_of_mem->Av,mem_of_getElem?->Ay,map_map->AC,take_of_length_le->AD,map_cons->AE,mem_append_right->AI,getD_eq_getElem?_getD->AQ,length_take->AV,map_congr_left->AZ,lookup_cons->Ba
open PySem.Heap renaming get?_push_of_some->Ad,lt_size->Ah,get?_push_size->Ax,get?_update_other->AL,size_update->AO,SameBut->AR
open PySem.W renaming Frag->Ae,kitOne->AJ
open Nat renaming le_refl->Ag,ne_of_lt->Ar,lt_of_lt_of_le->Az,le_trans->AA,zero_le->AT,toDigits->A6,lt_succ_of_lt->Bc
open Option.some renaming inj->Ai
open PySem.Txt renaming split->Al
open Bool renaming false_eq_true->An,false_ne_true->As,and_eq_true->AB,and_false->AW,false_and->A9
open Array renaming length_toList->Au,getElem?_toList->AM
open PySem.F renaming plainAttrs_list->AF,plainAttrs_str->AK
open PySem.Obj renaming mapSeq->AG,data_mapFields->A0,mapFields->A5
open PyProof.Rows renaming take_snoc->AX
open PySem.Heap.SameBut renaming update->A1
open PySem.PassesOwn renaming never->A2
open Option renaming map_some->A7
set_option linter.all false
set_option Elab.async false
set_option maxRecDepth 100000
set_option maxHeartbeats 4000000
def δ{p:Prop}(h:p:=by decide +kernel):p:=h
def ω{p:Prop}(h:p:=by omega):p:=h
def ξ{p:Prop}(h:p:=by decide):p:=h
abbrev Ω:=PySem.Value->PySem.Shared->Prop
abbrev Ξ:=List (List Int)
abbrev Ψ:=List (PySem.Addr×PySem.Obj)
local macro_rules|`($s⁻¹)=>`(($s).heap.objs.size)
section
namespace L2
open PySem PySem.Spec PyProof.Rows
abbrev Key:=Sum Int Str
def jz:Key->Value->Bool
 |.inl k,v=>Value.isInt k v
 |.inr x,v=>Value.isStrOf x v
def rW(w:World):Key->Int
 |.inl k=>hashInt k
 |.inr x=>hashStr w x
def aH:∀{k:Key}{v:Value},jz k v=true->(∃i t,k=Sum.inl i/\v=Value.int i t)\/(∃x t,k=Sum.inr x/\v=Value.str x t)
 |.inl i,v,h=>by
  obtain⟨t,e⟩:=Value.isInt_shape (k:=i) (v:=v) h;exact .inl ⟨i,t,rfl,e⟩
 |.inr x,v,h=>by
  obtain⟨t,e⟩:=Value.isStrOf_shape (x:=x) (v:=v) h;exact .inr ⟨x,t,rfl,e⟩
def DG(i:Int)(t:Tok):jz (.inl i) (.int i t)=true:=by simp[jz,Value.isInt]
def DH(x:Str)(t:Tok):jz (.inr x) (.str x t)=true:=by simp[jz,Value.isStrOf]
def DI(a b:Int):decide ((Sum.inl a:Key)=Sum.inl b)=(a==b):=by
 by_cases e:a=b
 ·subst e;simp
 ·have h:¬(Sum.inl a:Key)=Sum.inl b:=fun q=>e (Sum.inl.inj q)
  rw[decide_eq_false h];exact(beq_eq_false_iff_ne.mpr e).symm
def DJ(a b:Str):decide ((Sum.inr a:Key)=Sum.inr b)=decide (a=b):=by
 by_cases e:a=b
 ·subst e;simp
 ·have h:¬(Sum.inr a:Key)=Sum.inr b:=fun q=>e (Sum.inr.inj q)
  rw[decide_eq_false h,decide_eq_false e]
def DK(a:Int)(b:Str):decide ((Sum.inl a:Key)=Sum.inr b)=false:=decide_eq_false (fun q=>nomatch q)
def DL(a:Str)(b:Int):decide ((Sum.inr a:Key)=Sum.inl b)=false:=decide_eq_false (fun q=>nomatch q)
def zx(prog:Program)(w:World):PySem.KeyKind prog w Key where
 is:=jz
 hash:=rW w
 inj:=fun v a b d hb=>by
  rcases aH d with ⟨i,t,rfl,rfl⟩|⟨x,t,rfl,rfl⟩
  ·rcases aH hb with ⟨j,u,rfl,e⟩|⟨y,u,rfl,e⟩
   ·injection e with e1 _;rw[e1]
   ·exact nomatch e
  ·rcases aH hb with ⟨j,u,rfl,e⟩|⟨y,u,rfl,e⟩
   ·exact nomatch e
   ·injection e with e1 _;rw[e1]
 byValue:=fun k v h=>by
  rcases aH h with ⟨i,t,rfl,rfl⟩|⟨x,t,rfl,rfl⟩<;>rfl
 pyHash:=fun c h=>by
  rcases aH c with ⟨i,t,rfl,rfl⟩|⟨x,t,rfl,rfl⟩
  ·exact wpAny_pyHash_int h
  ·exact wpAny_pyHash_str h
 eqBool:=fun hu c h=>by
  rcases aH hu with ⟨i,t,rfl,rfl⟩|⟨x,t,rfl,rfl⟩
  ·rcases aH c with ⟨j,u,rfl,rfl⟩|⟨y,u,rfl,rfl⟩
   ·rw[DI] at h;exact wpAny_eqBool_int h
   ·rw[DK] at h;exact SeqAt.EqAt.int_str i t y u _ _ _ _ h
  ·rcases aH c with ⟨j,u,rfl,rfl⟩|⟨y,u,rfl,rfl⟩
   ·rw[DL] at h;exact SeqAt.EqAt.str_int x t j u _ _ _ _ h
   ·rw[DJ] at h;exact wpAny_eqBool_str h
 «strs»:=fun k x t v h=>by
  rcases aH h with ⟨i,u,rfl,e⟩|⟨y,u,rfl,e⟩
  ·exact nomatch e
  ·injection e with e1 _
   subst e1;cases v<;>rfl
def rZ(prog:Program)(w:World)(i:Int)(t:Tok):(zx prog w).is (.inl i) (.int i t)=true:=DG i t
def DM(prog:Program)(w:World)(x:Str)(t:Tok):(zx prog w).is (.inr x) (.str x t)=true:=DH x t
inductive V where
 |non|bl (b:Bool)|int (i:Int)|str (x:Str)|byt (b:Array UInt8)|flt (b:UInt64)|ref (a:Addr)|ty (n:String)
 deriving DecidableEq
def RelV:V->Value->Prop
 |.non,u=>u=Value.none
 |.bl b,u=>u=Value.bool b
 |.int i,u=>∃t,u=Value.int i t
 |.str x,u=>∃t,u=Value.str x t
 |.byt b,u=>∃t,u=Value.bytes b t
 |.flt b,u=>∃t,u=Value.float b t
 |.ref a,u=>u=Value.ref a
 |.ty n,u=>u=Value.type n
abbrev Vals:List V->List Value->Prop:=Paired RelV
def Vals.length{xs:List V}{us:List Value}(r:Vals xs us):xs.length=us.length:=Paired.length r
def Vals.get:∀{xs:List V}{us:List Value}{i:Nat}{x:V},Vals xs us->xs[i]?=some x->∃u,us[i]?=some u/\RelV x u
 |_,_,_,_,.nil,e=>by simp at e
 |_,_,0,_,.cons r _,e=>by simp at e;subst e;exact⟨_,rfl,r⟩
 |_,_,i+1,x,.cons _ t,e=>by
  obtain⟨u,h1,h2⟩:=Vals.get (i:=i) (x:=x) t (by simpa using e);exact⟨u,by simpa using h1,h2⟩
def Vals.set{x:V}{u:Value}(r:RelV x u):∀{xs:List V}{us:List Value}(i:Nat),Vals xs us->Vals (xs.set i x) (us.set i u)
 |_,_,_,.nil=>.nil
 |_,_,0,.cons _ t=>.cons r t
 |_,_,i+1,.cons q t=>.cons q (Vals.set r i t)
def Vals.append{xs ys:List V}{us ws:List Value}(h:Vals xs us)(g:Vals ys ws):Vals (xs++ys) (us++ws):=by
 induction h with
 |nil=>exact g
 |cons r _ ih=>exact .cons r ih
def Vals.take:∀{xs:List V}{us:List Value}(n:Nat),Vals xs us->Vals (xs.take n) (us.take n)
 |_,_,0,_=>.nil
 |_,_,_+1,.nil=>.nil
 |_,_,n+1,.cons r t=>.cons r (Vals.take n t)
def Vals.drop:∀{xs:List V}{us:List Value}(n:Nat),Vals xs us->Vals (xs.drop n) (us.drop n)
 |_,_,0,r=>r
 |_,_,_+1,.nil=>.nil
 |_,_,n+1,.cons _ t=>Vals.drop n t
def RelO:Option V->Option Value->Prop
 |some v,some u=>RelV v u
 |none,none=>True
 |_,_=>False
def KV{κ:Type}:List (κ×V)->List (κ×Value)->Prop:=Paired fun(p:κ×V)(q:κ×Value)=>p.1=q.1/\RelV p.2 q.2
def kV:Key->V
 |.inl i=>.int i
 |.inr x=>.str x
inductive HO where
 |lst (xs:List V)
 |tup (xs:List V)
 |dK (kvs:List (Key×V))|dT (kvs:List (List Key×V))
 |set (S:Int->Bool) (n:Nat)
 |ins (C dx:Addr) (fs:List (Str×V))
 |own (x:Addr)
 |xd (fs:List (Str×V))
 |met (f x:Addr)
 |rng (lo hi:Int)
 |frz (o:Obj) (u:HO)
 |tbl (ps:Array Value)
 |ext (φ:Heap->Prop)
abbrev Hp:=Addr->Option HO
def upd(H:Hp)(a:Addr)(o:HO):Hp:=fun b=>if b=a then some o else H b
def al{H:Hp}{a:Addr}{o:HO}:upd H a o a=some o:=by unfold upd;rw[if_pos rfl]
def zh{H:Hp}{a b:Addr}{o:HO}(h:b≠a):upd H a o b=H b:=by unfold upd;rw[if_neg h]
def dF{H:Hp}{a b:Addr}{o u:HO}(h:H a=some o)(h':H b=some u)(d:o≠u):a≠b:=by
 intro e;subst e;rw[h] at h';exact d (Ai h')
def zg{H:Hp}{a b:Addr}{o:HO}(h:H a=some o)(h':H b=none):a≠b:=by
 intro e;subst e;rw[h] at h';cases h'
section
variable(P:Program)(w:World)
def zA(H:Hp)(h:Heap)(a:Addr):HO->Prop
 |.lst xs=>xs.length<=sizeLine/\∃(b:List Value)(n:Nat),Vals xs b/\h.get? a=some {cls:=.type "list",data:=.seq b.toArray n}
 |.tup xs=>xs.length<=sizeLine/\∃b:List Value,Vals xs b/\IsTup h a b.toArray
 |.dK kvs=>kvs.length<=sizeLine/\(a==sysModules)=false/\∃vs,KV kvs vs/\h.DictOf (zx P w) a vs
 |.dT kvs=>kvs.length<=sizeLine/\(a==sysModules)=false/\∃xs:List (List Key×Addr×Value),
   Paired (fun(p:List Key×V)(q:List Key×Addr×Value)=>p.1=q.1/\H q.2.1=some (.tup (p.1.map kV))/\RelV p.2 q.2.2) kvs xs/\
   ∃o es ep,h.get? a=some o/\o.ExactDict/\o.data=.dict es ep/\es.toList=xs.map (entryOfKey (tupleKind (zx P w)))/\(xs.map (·.1)).Nodup
 |.set S n=>h.SetOf (intKind P w) a S n
 |.ins C dx fs=>H dx=some (.own a)/\fs.length<=1000/\dx≠a/\h.get? a=some (PySem.W.instObj C dx)/\
   ∃mA,h.Ns1 dx mA/\(∀f,RelO (fs.lookup f) (mA f))/\PySem.Within mA (fs.map (·.1))
 |.own _=>∃o,h.get? a=some o
 |.xd fs=>∃mA,h.Ns1 a mA/\∀f,RelO (fs.lookup f) (mA f)
 |.rng lo hi=>∃t u v,h.get? a=some {cls:=.type "range",data:=.fields #[.int lo t,.int hi u,.int 1 v]}
 |.frz o u=>h.get? a=some o/\zA H h a u
 |.tbl ps=>h.get? a=some {cls:=.none,data:=.fields ps}
 |.met f x=>h.get? a=some (PySem.W.methodObj (.ref f) (.ref x))
 |.ext φ=>φ h/\(∃o,h.get? a=some o)/\∀h1 h2:Heap,φ h1->(∀o,h1.get? a=some o->h2.get? a=some o)->φ h2
def HOk(H:Hp)(h:Heap):Prop:=∀a o,H a=some o->zA P w H h a o
end
section
variable{P:Program}{w:World}{H H':Hp}{h h':Heap}{a:Addr}{o:HO}
def zA.lt(x:zA P w H h a o):a<h.objs.size:=by
 cases o with
 |lst xs=>obtain⟨_,_,_,_,e⟩:=x;exact Ah e
 |tup xs=>obtain⟨_,_,_,p⟩:=x;exact p.lt
 |dK kvs=>obtain⟨_,_,_,_,o,_,_,e,_⟩:=x;exact Ah e
 |dT kvs=>obtain⟨_,_,_,_,o,_,_,e,_⟩:=x;exact Ah e
 |set S n=>obtain⟨o,_,_,_,e,_⟩:=x;exact Ah e
 |ins C dx fs=>obtain⟨_,_,_,e,_⟩:=x;exact Ah e
 |own y=>obtain⟨_,e⟩:=x;exact Ah e
 |xd fs=>obtain⟨_,⟨_,_,_,e,_⟩,_⟩:=x;exact Ah e
 |rng lo hi=>obtain⟨_,_,_,e⟩:=x;exact Ah e
 |frz ob u=>obtain⟨e,_⟩:=x;exact Ah e
 |tbl ps=>exact Ah (show h.get? a=some _ from x)
 |met f y=>exact Ah (show h.get? a=some _ from x)
 |ext φ=>obtain⟨_,⟨_,e⟩,_⟩:=x;exact Ah e
def Paired.mapP{c d:Type}{F G:c->d->Prop}{l₁:List c}{l₂:List d}(h:Paired F l₁ l₂)(f:∀a b,F a b->G a b):Paired G l₁ l₂:=by
 induction h with
 |nil=>exact .nil
 |cons r _ ih=>exact .cons (f _ _ r) ih
def zA.stay(x:zA P w H h a o)(k:∀b u,(b=a\/H b=some (.own a))->h.get? b=some u->h'.get? b=some u)(j:∀b,H b=some (.own a)->H' b=some (.own a))(ht:∀b xs,H b=some (.tup xs)->H' b=some (.tup xs)):zA P w H' h' a o:=by
 induction o with
 |lst xs=>obtain⟨z,g,n,r,e⟩:=x;exact⟨z,g,n,r,k _ _ (.inl rfl) e⟩
 |tup xs=>obtain⟨z,g,r,ob,e,c⟩:=x;exact⟨z,g,r,ob,k _ _ (.inl rfl) e,c⟩
 |dK kvs=>obtain⟨z,y,vs,r,ob,es,ep,e,c⟩:=x;exact⟨z,y,vs,r,ob,es,ep,k _ _ (.inl rfl) e,c⟩
 |dT kvs=>
  obtain⟨z,y,xs,r,ob,es,ep,e,c⟩:=x;exact⟨z,y,xs,Paired.mapP r fun p q z=>⟨z.1,ht _ _ z.2.1,z.2.2⟩,ob,es,ep,k _ _ (.inl rfl) e,c⟩
 |set S n=>obtain⟨ob,es,ep,t,e,c⟩:=x;exact⟨ob,es,ep,t,k _ _ (.inl rfl) e,c⟩
 |ins C dx fs=>
  obtain⟨d,z,ne,e,mA,⟨i,es,ep,e2,c⟩,r⟩:=x;exact⟨j _ d,z,ne,k _ _ (.inl rfl) e,mA,⟨i,es,ep,k _ _ (.inr d) e2,c⟩,r⟩
 |own y=>obtain⟨ob,e⟩:=x;exact⟨ob,k _ _ (.inl rfl) e⟩
 |xd fs=>obtain⟨mA,⟨i,es,ep,e,c⟩,r⟩:=x;exact⟨mA,⟨i,es,ep,k _ _ (.inl rfl) e,c⟩,r⟩
 |rng lo hi=>obtain⟨t,u,v,e⟩:=x;exact⟨t,u,v,k _ _ (.inl rfl) e⟩
 |frz ob u ih=>obtain⟨e,q⟩:=x;exact⟨k _ _ (.inl rfl) e,ih q⟩
 |tbl ps=>
  have e:h.get? a=some {cls:=.none,data:=.fields ps}:=x;show h'.get? a=some {cls:=.none,data:=.fields ps};exact k a _ (.inl rfl) e
 |met f y=>
  have e:h.get? a=some (PySem.W.methodObj (.ref f) (.ref y)):=x;show h'.get? a=some (PySem.W.methodObj (.ref f) (.ref y));exact k a _ (.inl rfl) e
 |ext φ=>obtain⟨p,⟨o,e⟩,st⟩:=x;exact⟨st _ _ p fun o q=>k _ _ (.inl rfl) q,⟨o,k _ _ (.inl rfl) e⟩,st⟩
def HOk.lt(x:HOk P w H h)(e:H a=some o):a<h.objs.size:=(x a o e).lt
def HOk.fresh(x:HOk P w H h)(e:h.objs.size<=a):H a=none:=by
 cases q:H a with
 |none=>rfl
 |some u=>exact absurd (Az (x.lt q) e) (Nat.lt_irrefl _)
def HOk.kept(x:HOk P w H h)(k:∀b u,h.get? b=some u->h'.get? b=some u):HOk P w H h':=fun a o e=>
 (x a o e).stay (fun b u _ q=>k b u q) (fun _ q=>q) fun _ _ q=>q
def HOk.laid(x:HOk P w H h)(k:∀b u,h.get? b=some u->h'.get? b=some u)(hp:h.objs.size<=a)(new:zA P w (upd H a o) h' a o):HOk P w (upd H a o) h':=fun b u e=>by
 have d:=x.fresh hp
 by_cases hb:b=a
 ·subst hb;rw[al] at e;cases e;exact new
 ·rw[zh hb] at e
  exact(x b u e).stay (fun c v _ q=>k c v q) (fun c q=>by rw[zh (zg q d)];exact q) fun c xs q=>by rw[zh (zg q d)];exact q
end
def Rd(H:Hp)(a:Addr)(u:HO):Prop:=H a=some u\/∃o,H a=some (.frz o u)
def Rd.of{H:Hp}{a:Addr}{u:HO}(h:H a=some u):Rd H a u:=.inl h
def Rd.ok{P:Program}{w:World}{H:Hp}{h:Heap}{a:Addr}{u:HO}(r:Rd H a u)(x:HOk P w H h):zA P w H h a u:=by
 rcases r with r|⟨o,r⟩
 ·exact x a u r
 ·obtain⟨_,q⟩:=x a _ r
  exact q
def k7:Option HO->Prop
 |some (.lst _)=>True
 |some (.dK _)=>True
 |some (.dT _)=>True
 |some (.set _ _)=>True
 |some (.ins _ _ _)=>True
 |some (.ext _)=>True
 |_=>False
section
variable{P:Program}{w:World}{H:Hp}{h h':Heap}{x e:Addr}{o':HO}
def HOk.write(ok:HOk P w H h)(g:k7 (H x))(he:e=x\/H e=some (.own x))(k:∀b u,b≠e->h.get? b=some u->h'.get? b=some u)(l:∃u,h'.get? e=some u)(new:zA P w (upd H x o') h' x o'):HOk P w (upd H x o') h':=fun b u q=>by
 have d:∀c y,H c=some (.own y)->c≠x:=fun c y r z=>by subst z;rw[r] at g;exact g
 have f:∀c xs,H c=some (.tup xs)->c≠x:=fun c xs r z=>by subst z;rw[r] at g;exact g
 by_cases hb:b=x
 ·subst hb;rw[al] at q;cases q;exact new
 ·rw[zh hb] at q
  by_cases a:b=e
  ·have i:H b=some (.own x):=by
    rcases he with z|z
    ·exact absurd (a.trans z) hb
    ·rw[a];exact z
   rw[q] at i;cases i;obtain⟨v,j⟩:=l;exact⟨v,by rw[a];exact j⟩
  ·refine(ok b u q).stay (fun c v hc r=>k c v ?_ r) (fun c r=>by rw[zh (d c b r)];exact r) fun c xs r=>by rw[zh (f c xs r)];exact r
   rcases hc with rfl|hc
   ·exact a
   ·rintro rfl
    rcases he with z|z
    ·exact d c b hc z
    ·rw[hc] at z;cases z;exact hb rfl
end
structure Un(fs ex:List Addr)(H H':Hp)(h h':Heap):Prop where
 keep:∀b o,h.get? b=some o->H b=none->b∉fs->b∉ex->h'.get? b=some o
 slot:∀b o,h.get? b=some o->H b=none->b∈fs->b∉ex->∃sl,h'.get? b=some {o with slots:=sl}
 free:∀b o,h.get? b=some o->H b=none->b∉ex->H' b=none
 there:∀b o,h.get? b=some o->b∉ex->∃o',h'.get? b=some o'
 tups:∀b xs,H b=some (.tup xs)->H' b=some (.tup xs)
 frzs:∀b o u,H b=some (.frz o u)->H' b=some (.frz o u)
 tbls:∀b ps,H b=some (.tbl ps)->∃more,H' b=some (.tbl (ps++more))
section
variable{fs qB ex vF:List Addr}{H H1 H2:Hp}{h h1 h2 h':Heap}{a x e:Addr}{o:HO}
def Un.any(u:Un fs ex H H1 h h1){b:Addr}{ob:Obj}(q:h.get? b=some ob)(n:H b=none)(hx:b∉ex):∃a,h1.get? b=some {ob with slots:=a}:=by
 by_cases hb:b∈fs
 ·exact u.slot b ob q n hb hx
 ·exact⟨ob.slots,u.keep b ob q n hb hx⟩
def Un.kept(k:∀b u,h.get? b=some u->h'.get? b=some u):Un fs ex H H h h':=
 ⟨fun b ob q _ _ _=>k b ob q,fun b ob q _ _ _=>⟨ob.slots,k b ob q⟩,fun _ _ _ n _=>n,fun b ob q _=>⟨ob,k b ob q⟩,fun _ _ q=>q,fun _ _ _ q=>q,fun _ ps q=>⟨#[],by rw[q];simp⟩⟩
def Un.refl:Un fs ex H H h h:=Un.kept fun _ _ q=>q
def Un.laid(k:∀b u,h.get? b=some u->h'.get? b=some u)(hp:h.objs.size<=a)(c:H a=none):Un fs ex H (upd H a o) h h' where
 keep:=fun b u q _ _ _=>k b u q
 slot:=fun b u q _ _ _=>⟨u.slots,k b u q⟩
 free:=fun b u q n _=>by rw[zh (Ar (Az (Ah q) hp))];exact n
 there:=fun b u q _=>⟨u,k b u q⟩
 tups:=fun b xs q=>by rw[zh (zg q c)];exact q
 frzs:=fun b u xs q=>by rw[zh (zg q c)];exact q
 tbls:=fun b ps q=>⟨#[],by rw[zh (zg q c),q];simp⟩
def Un.write(c:k7 (H x))(he:e=x\/H e=some (.own x))(k:∀b u,b≠e->h.get? b=some u->h'.get? b=some u)(d:∃u,h'.get? e=some u):Un fs ex H (upd H x o) h h':=by
 have hx:∀b,H b=none->b≠x:=fun b n z=>by subst z;rw[n] at c;exact c
 have hb:∀b,H b=none->b≠e:=fun b n z=>by
  subst z;rcases he with r|r
  ·exact hx b n r
  ·rw[n] at r;cases r
 have hm:∀b u,H b=some u->¬k7 (some u)->b≠x:=fun b u q nm z=>by subst z;rw[q] at c;exact nm c
 refine⟨fun b u q n _ _=>k b u (hb b n) q,fun b u q n _ _=>⟨u.slots,k b u (hb b n) q⟩,fun b u q n _=>by rw[zh (hx b n)];exact n,fun b u q _=>?_,
  fun b xs q=>by rw[zh (hm b _ q fun z=>z)];exact q,fun b u xs q=>by rw[zh (hm b _ q fun z=>z)];exact q,fun b ps q=>⟨#[],by rw[zh (hm b _ q fun z=>z),q];simp⟩⟩
 by_cases a:b=e
 ·subst a;exact d
 ·exact⟨u,k b u a q⟩
end
def nH(h:Heap)(H:Hp):List Addr:=(List.range h.objs.size).filter fun a=>(H a).isSome
def dg(h:Heap)(H:Hp):Heap:=PySem.W.hideAll h (nH h H)
def DN(h:Heap)(H:Hp):(dg h H).objs.size=h.objs.size:=PySem.W.hideAll_size _ _
def DO{h:Heap}{H:Hp}{b:Addr}{o:Obj}(e:h.get? b=some o)(n:H b=none):(dg h H).get? b=some o:=
 PySem.W.hideAll_get _ e fun hm=>by
  have q:(H b).isSome=true:=(List.mem_filter.mp hm).2;rw[n] at q;simp at q
def DP{h:Heap}{H:Hp}{b:Addr}{o:Obj}(e:(dg h H).get? b=some o):h.get? b=some o/\H b=none:=by
 have a:h.get? b=some o:=PySem.W.of_hideAll (nH h H) e;refine⟨a,?_⟩;cases q:H b with
 |none=>rfl
 |some x=>
  have hm:b∈nH h H:=List.mem_filter.mpr ⟨List.mem_range.mpr (Ah a),by simp[q]⟩;have z:(dg h H).get? b=none:=PySem.W.hideAll_none (nH h H) hm;rw[z] at e;cases e
def DQ(g h:Heap)(L:Addr):Ψ:=(List.range h.objs.size).filterMap fun a=>if a=L\/(g.get? a).isSome=true then none else(h.get? a).map fun o=>(a,o)
def rest(g h:Heap)(L d:Addr):Ψ:=(DQ g h L).filter fun p=>decide (p.1≠d)
structure Mod(K:Ae)(mg:Str->Option Value)(base:Heap):Prop where
 kin:K.In base
 glob:base.Ns mainGlobals mg
 blt:∃mb,base.Ns builtinsNs mb/\∀x:Str,x≠"__name__"->mb x=A4 x
 nolimit:base.NoLimit
structure Cx where
 prog:Program
 w:World
 K:Ae
 mg:Str->Option Value
 base:Heap
 A:Around
 N:List Str
 s₀:Shared
 H₀:Hp
 env:Env
 outer:List Env
 stack:List Env
 ex:List Addr
 fn:Str->Bool
 calm:Bool
 pn:Ψ
 xe:Ω
def frs(l:List Env):List Addr:=l.filterMap (·.frame)
abbrev Cx.fs(X:Cx):List Addr:=frs X.outer
def jB(a:Scope)(x:Str):Prop:=a.names.lookup x=some .local\/a.names.lookup x=some .cell\/a.names.lookup x=some .free
def Loc(a:Scope)(x:Str):Prop:=a.names.lookup x=some .local\/a.names.lookup x=some .cell
def Look(env:Env)(h:Heap)(m:Str->Option Value)(x:Str)(u:Value):Prop:=
 (env.kindOf x=some .local/\m x=some u)\/((env.kindOf x=some .cell\/env.kindOf x=some .free)/\∃c,env.cells.lookup x=some c/\h.IsCell c (some u))
structure Cx.Ok(X:Cx):Prop where
 mod:Mod X.K X.mg X.base
 kind:X.env.scope.kind=.function
 glob:X.env.globals=mainGlobals
 blt:X.env.builtins=builtinsNs
 above:X.s₀⁻¹<=X.env.locals
 inj:∀x y c,X.env.cells.lookup x=some c->X.env.cells.lookup y=some c->x=y
 has:∀x,(X.env.kindOf x=some .cell\/X.env.kindOf x=some .free)->∃c,X.env.cells.lookup x=some c
 cab:∀x c,X.fn x=true->X.env.cells.lookup x=some c->X.s₀⁻¹<=c
 hd:X.calm=true->X.A.handled=none
 frames:X.A.frames=some X.stack
 stk:X.stack=X.outer\/(X.stack=X.env::X.outer/\X.env.frame=some X.env.locals)
 exf:∀b∈X.ex,b≠X.env.locals/\∀x c,X.env.cells.lookup x=some c->c≠b
 bs:∀b o,X.base.get? b=some o->X.s₀.heap.get? b=some o/\X.H₀ b=none
 bsz:X.base.objs.size<=X.s₀⁻¹
 noex:∀b o,X.base.get? b=some o->b∉X.ex
 exfs:∀b∈X.ex,b∉X.fs
 funs:X.s₀.heap.FunFrames X.base X.outer
 frf:∀b∈X.fs,X.H₀ b=none
structure Inv(X:Cx)(aa:Ψ)(σ:List (Option V))(H:Hp)(s:Shared):Prop where
 ok:X.Ok
 os:s.os=X.s₀.os
 bare:AllBare s.gens
 base:Un X.fs X.ex X.H₀ H X.s₀.heap s.heap
 loc:∃m,s.heap.Ns X.env.locals m/\∀(i:Nat)(x:Str)(v:V),X.N[i]?=some x->σ[i]?=some (some v)->jB X.env.scope x->∃u,RelV v u/\Look X.env s.heap m x u
 cell:∀x c,X.env.cells.lookup x=some c->∃v,s.heap.IsCell c v
 free:H X.env.locals=none
 freeC:∀x c,X.env.cells.lookup x=some c->H c=none
 pin:∀p∈X.pn++aa,s.heap.get? p.1=some p.2/\H p.1=none/\p.1≠X.env.locals/\p.1∉X.fs/\∀v,p.2.data≠.cell v
 hok:HOk X.prog X.w H s.heap
 len:σ.length=X.N.length
section
variable{X:Cx}{aa:Ψ}{σ:List (Option V)}{H H':Hp}{s:Shared}{h':Heap}
def Cx.Ok.nofr(ok:X.Ok){b:Addr}{o:Obj}(e:X.base.get? b=some o):b∉X.fs:=fun hb=>by
 have:=(ok.funs.mem hb).1;rw[e] at this;cases this
def Inv.bs(I:Inv X aa σ H s):∀b o,X.base.get? b=some o->s.heap.get? b=some o/\H b=none:=fun b o e=>
 ⟨I.base.keep b o (I.ok.bs b o e).1 (I.ok.bs b o e).2 (I.ok.nofr e) (I.ok.noex b o e),I.base.free b o (I.ok.bs b o e).1 (I.ok.bs b o e).2 (I.ok.noex b o e)⟩
def Inv.bk(I:Inv X aa σ H s):∀b o,X.base.get? b=some o->s.heap.get? b=some o:=fun b o e=>(I.bs b o e).1
def Inv.mod(I:Inv X aa σ H s):Mod X.K X.mg X.base:=I.ok.mod
def Inv.kIn(I:Inv X aa σ H s):X.K.In s.heap:=I.ok.mod.kin.keeps I.bk
def Inv.nolimit(I:Inv X aa σ H s):s.heap.NoLimit:=I.ok.mod.nolimit.keeps I.bk
def Inv.fr(I:Inv X aa σ H s):∃m,Fr X.base X.env.locals s.heap m:=
 let ⟨m,hn,_⟩:=I.loc
 ⟨m,hn,I.bk,AA I.ok.bsz I.ok.above⟩
def Inv.lt(I:Inv X aa σ H s):X.env.locals<s⁻¹:=let ⟨_,hn,_⟩:=I.loc;hn.lt
def Inv.sz(I:Inv X aa σ H s):X.s₀⁻¹<=s⁻¹:=AA I.ok.above (Nat.le_of_lt I.lt)
def Inv.nofs(I:Inv X aa σ H s){a:Addr}(h:s⁻¹<=a):a∉X.fs:=fun hb=>by
 obtain⟨_,o,b,_⟩:=I.ok.funs.mem hb;exact absurd (Az (Ah b) (AA I.sz h)) (Nat.lt_irrefl _)
def Inv.cne(I:Inv X aa σ H s):∀x c,X.env.cells.lookup x=some c->c≠X.env.locals:=fun x c e z=>by
 obtain⟨v,o,b,hd⟩:=I.cell x c e;obtain⟨m,⟨o',es,ep,d,a,_⟩,_⟩:=I.loc;rw[z,d] at b;cases b;rw[a] at hd;cases hd
def Inv.funs(I:Inv X aa σ H s):s.heap.FunFrames X.base X.outer:=by
 have all:∀(l:List Env),(∀b∈frs l,b∈X.fs)->X.s₀.heap.FunFrames X.base l->s.heap.FunFrames X.base l:=by
  intro l
  induction l with
  |nil=>intro _ _;trivial
  |cons env r ih=>
   intro hs c;obtain⟨hk,⟨L,o,hf,d,f,hd⟩,hr⟩:=c;have a:L∈X.fs:=hs L (by unfold frs;rw[List.filterMap_cons,hf];exact Am);obtain⟨g,e⟩:=I.base.slot L o f (I.ok.frf L a) a fun z=>I.ok.exfs L z a;exact⟨hk,⟨L,_,hf,d,e,hd⟩,ih (fun b hb=>hs b (by unfold frs;rw[List.filterMap_cons,hf];exact Av _ hb)) hr⟩
 exact all X.outer (fun _ hb=>hb) I.ok.funs
def Inv.stack(I:Inv X aa σ H s):s.heap.FunFrames X.base X.stack:=by
 rcases I.ok.stk with e|⟨e,hf⟩
 ·rw[e];exact I.funs
 ·rw[e]
  obtain⟨m,a,_⟩:=I.loc;refine .cons (by rw[I.ok.kind];decide) hf a ?_ I.funs;exact Heap.get?_none_of_le (AA I.ok.bsz I.ok.above)
def Inv.stkSub(I:Inv X aa σ H s):∀b∈frs X.stack,b∈X.env.locals::X.fs:=fun b hb=>by
 rcases I.ok.stk with e|⟨e,hf⟩
 ·rw[e] at hb;exact Av _ hb
 ·rw[e] at hb
  unfold frs at hb;rw[List.filterMap_cons,hf] at hb;exact hb
def Inv.stkFree(I:Inv X aa σ H s):∀b∈frs X.stack,H b=none:=fun b hb=>by
 rcases List.mem_cons.mp (I.stkSub b hb) with e|hb
 ·rw[e];exact I.free
 ·obtain⟨_,o,a,_⟩:=I.ok.funs.mem hb
  exact I.base.free b o a (I.ok.frf b hb) fun z=>I.ok.exfs b z hb
def Inv.step{g':Array GenState}{t':Nat}{d':Drawn}{ch:List Addr}(I:Inv X aa σ H s)(h:∀b∈ch,(b∈X.ex\/X.s₀⁻¹<=b)/\b≠X.env.locals/\(∀x c,X.env.cells.lookup x=some c->c≠b)/\∀p∈X.pn++aa,p.1≠b)(keep:∀b o,b≠X.env.locals->b∉X.fs->b∉ch->s.heap.get? b=some o->H b=none->h'.get? b=some o)(slot:∀b o,b≠X.env.locals->b∈X.fs->b∉ch->s.heap.get? b=some o->H b=none->∃A,h'.get? b=some {o with slots:=A})(free:∀b o,b∉ch->s.heap.get? b=some o->H b=none->H' b=none)(there:∀b o,b∉ch->s.heap.get? b=some o->∃o',h'.get? b=some o')(tups:∀b xs,H b=some (.tup xs)->H' b=some (.tup xs))(frzs:∀b o u,H b=some (.frz o u)->H' b=some (.frz o u))(tbls:∀b ps,H b=some (.tbl ps)->∃more,H' b=some (.tbl (ps++more)))(ns:∀m,s.heap.Ns X.env.locals m->h'.Ns X.env.locals m)(C:HOk X.prog X.w H' h')(M:AllBare g'):Inv X aa σ H' {s with heap:=h',gens:=g',drawn:=d',toks:=t'}:=by
 have j:∀b o,X.s₀.heap.get? b=some o->b≠X.env.locals:=fun b o e=>Ar (Az (Ah e) I.ok.above);have y:∀b o,X.s₀.heap.get? b=some o->b∉X.ex->b∉ch:=fun b o e hx hb=>by
  rcases(h b hb).1 with z|z
  ·exact hx z
  ·exact absurd (Az (Ah e) z) (Nat.lt_irrefl _)
 have a:∀x c,X.env.cells.lookup x=some c->∀v,s.heap.IsCell c v->h'.IsCell c v:=fun x c e v ⟨o,g,hd⟩=>by
  have f:c∉ch:=fun z=>(h c z).2.2.1 x c e rfl
  by_cases hc:c∈X.fs
  ·obtain⟨A,q⟩:=slot c o (I.cne x c e) hc f g (I.freeC x c e)
   exact⟨_,q,hd⟩
  ·exact⟨o,keep c o (I.cne x c e) hc f g (I.freeC x c e),hd⟩
 refine⟨I.ok,I.os,M,⟨fun b o e n hb hx=>?_,fun b o e n hb hx=>?_,fun b o e n hx=>?_,fun b o e hx=>?_,fun b xs e=>tups b xs (I.base.tups b xs e),fun b o xs e=>frzs b o xs (I.base.frzs b o xs e),fun b ps e=>?_⟩,?_,fun x c e=>?_,?_,fun x c e=>?_,fun p hp=>?_,C,I.len⟩
 ·exact keep b o (j b o e) hb (y b o e hx) (I.base.keep b o e n hb hx) (I.base.free b o e n hx)
 ·obtain⟨A,e1⟩:=I.base.slot b o e n hb hx
  obtain⟨E,e2⟩:=slot b _ (j b o e) hb (y b o e hx) e1 (I.base.free b o e n hx);exact⟨E,e2⟩
 ·obtain⟨o',e1⟩:=I.base.there b o e hx
  exact free b o' (y b o e hx) e1 (I.base.free b o e n hx)
 ·obtain⟨o',e1⟩:=I.base.there b o e hx
  exact there b o' (y b o e hx) e1
 ·obtain⟨F,e1⟩:=I.base.tbls b ps e
  obtain⟨G,e2⟩:=tbls b _ e1;exact⟨F++G,by rw[e2,Array.append_assoc]⟩
 ·obtain⟨m,J,L⟩:=I.loc
  refine⟨m,ns m J,fun i x v e1 e2 e3=>?_⟩;obtain⟨u,r,l⟩:=L i x v e1 e2 e3;refine⟨u,r,?_⟩;rcases l with l|⟨k,c,e,z⟩
  ·exact .inl l
  ·exact .inr ⟨k,c,e,a x c e _ z⟩
 ·obtain⟨v,z⟩:=I.cell x c e
  exact⟨v,a x c e v z⟩
 ·obtain⟨m,⟨o,_,_,g,_⟩,_⟩:=I.loc
  exact free _ o (fun z=>(h _ z).2.1 rfl) g I.free
 ·obtain⟨v,o,g,hd⟩:=I.cell x c e
  exact free c o (fun z=>(h c z).2.2.1 x c e rfl) g (I.freeC x c e)
 ·obtain⟨e,n,ne,D,d⟩:=I.pin p hp
  have f:p.1∉ch:=fun z=>(h p.1 z).2.2.2 p hp rfl;exact⟨keep p.1 p.2 ne D f e n,free p.1 p.2 f e n,ne,D,d⟩
def Inv.un{t':Nat}(I:Inv X aa σ H s)(u:Un X.fs [] H H' s.heap h')(a:HOk X.prog X.w H' h'):Inv X aa σ H' {s with heap:=h',toks:=t'}:=by
 obtain⟨m,⟨o,es,ep,c,r⟩,_⟩:=id I.loc;obtain⟨l,f⟩:=u.any c I.free (by simp);exact I.step (g':=s.gens) (d':=s.drawn) (ch:=[]) (fun _ z=>nomatch z) (fun b o _ hb _ e n=>u.keep b o e n hb (by simp)) (fun b o _ hb _ e n=>u.slot b o e n hb (by simp)) (fun b o _ e n=>u.free b o e n (by simp)) (fun b o _ e=>u.there b o e (by simp)) u.tups u.frzs u.tbls (fun j hm=>by
  obtain⟨o',g,h,d,i⟩:=hm;rw[c] at d;cases d;exact⟨_,g,h,f,i⟩) a I.bare
def Inv.call{g':Array GenState}{t':Nat}{d':Drawn}{ch:List Addr}(I:Inv X aa σ H s)(u:Un (frs X.stack) ch H H' s.heap h')(d:HOk X.prog X.w H' h')(q:AllBare g')(h:∀b∈ch,(b∈X.ex\/X.s₀⁻¹<=b)/\b≠X.env.locals/\(∀x c,X.env.cells.lookup x=some c->c≠b)/\∀p∈X.pn++aa,p.1≠b):Inv X aa σ H' {s with heap:=h',gens:=g',drawn:=d',toks:=t'}:=by
 obtain⟨m,⟨o,es,ep,f,r⟩,_⟩:=id I.loc;obtain⟨y,a⟩:=u.any f I.free fun z=>(h _ z).2.1 rfl;exact I.step (ch:=ch) h (fun b o a hb hc e n=>u.keep b o e n (fun z=>(List.mem_cons.mp (I.stkSub b z)).elim a hb) hc) (fun b o _ _ hc e n=>u.any e n hc) (fun b o hc e n=>u.free b o e n hc) (fun b o hc e=>u.there b o e hc) u.tups u.frzs u.tbls (fun v hm=>by
  obtain⟨o',i,j,g,l⟩:=hm;rw[f] at g;cases g;exact⟨_,i,j,a,l⟩) d q
def Inv.turned{t':Nat}{it:Addr}(I:Inv X aa σ H s)(k:∀b o,b≠it->s.heap.get? b=some o->h'.get? b=some o)(g:H it=none)(d:it≠X.env.locals)(h1:it∈X.ex\/X.s₀⁻¹<=it)(h2:∀x c,X.env.cells.lookup x=some c->c≠it)(h:∀p∈X.pn++aa,p.1≠it):Inv X aa σ H {s with heap:=h',toks:=t'}:=by
 have a:∀b u,H b=some u->b≠it:=fun b u e z=>by rw[z,g] at e;cases e
 refine I.step (g':=s.gens) (d':=s.drawn) (ch:=[it]) (fun b hb=>?_) (fun b o _ _ hc e _=>k b o (fun z=>hc (by simp[z])) e) (fun b o _ _ hc e _=>⟨o.slots,k b o (fun z=>hc (by simp[z])) e⟩) (fun _ _ _ _ n=>n)
  (fun b o hc e=>⟨o,k b o (fun z=>hc (by simp[z])) e⟩) (fun _ _ e=>e) (fun _ _ _ e=>e) (fun b ps e=>⟨#[],by rw[e];simp⟩) (fun m hm=>?_) (fun b u e=>?_) I.bare
 ·have e:b=it:=by simpa using hb
  subst e;exact⟨h1,d,h2,h⟩
 ·obtain⟨o,es,ep,f,r⟩:=hm
  exact⟨o,es,ep,k _ o (Ne.symm d) f,r⟩
 ·refine(I.hok b u e).stay (fun c v hc q=>k c v ?_ q) (fun _ q=>q) fun _ _ q=>q
  rcases hc with z|z
  ·rw[z];exact a b u e
  ·exact a c _ z
def Inv.tok(I:Inv X aa σ H s)(t:Nat):Inv X aa σ H {s with toks:=t}:=I.un (h':=s.heap) (t':=t) Un.refl I.hok
def Inv.kept{t':Nat}(I:Inv X aa σ H s)(k:∀b u,s.heap.get? b=some u->h'.get? b=some u):Inv X aa σ H {s with heap:=h',toks:=t'}:=I.un (Un.kept k) (I.hok.kept k)
def Inv.laid{a:Addr}{o:HO}{t':Nat}(I:Inv X aa σ H s)(k:∀b u,s.heap.get? b=some u->h'.get? b=some u)(hp:s⁻¹<=a)(new:zA X.prog X.w (upd H a o) h' a o):Inv X aa σ (upd H a o) {s with heap:=h',toks:=t'}:=I.un (Un.laid k hp (I.hok.fresh hp)) (I.hok.laid k hp new)
def Inv.write{x e:Addr}{o:HO}{t':Nat}(I:Inv X aa σ H s)(a:k7 (H x))(he:e=x\/H e=some (.own x))(k:∀b u,b≠e->s.heap.get? b=some u->h'.get? b=some u)(c:∃u,h'.get? e=some u)(new:zA X.prog X.w (upd H x o) h' x o):Inv X aa σ (upd H x o) {s with heap:=h',toks:=t'}:=I.un (Un.write a he k c) (I.hok.write a he k c new)
def Inv.pins_of{bE:Ψ}(I:Inv X aa σ H s)(h:∀p∈bE,s.heap.get? p.1=some p.2/\H p.1=none/\p.1≠X.env.locals/\p.1∉X.fs/\∀v,p.2.data≠.cell v):Inv X bE σ H s:=
 ⟨I.ok,I.os,I.bare,I.base,I.loc,I.cell,I.free,I.freeC,fun p hp=>(List.mem_append.mp hp).elim (fun z=>I.pin p (List.mem_append_left _ z)) (h p),I.hok,I.len⟩
def sf{N:List Str}(c:N.Nodup){i j:Nat}{x:Str}(a:N[i]?=some x)(b:N[j]?=some x):i=j:=by
 obtain⟨h1,e1⟩:=List.getElem?_eq_some_iff.mp a;obtain⟨h2,e2⟩:=List.getElem?_eq_some_iff.mp b;exact(List.getElem_inj c).mp (e1.trans e2.symm)
def DR{M:Model}{A:Around}{E:Ω}{i:Nat}{x:Str}{v:V}{u:Value}{Q:Unit->Shared->Prop}(I:Inv X aa σ H s)(hN:X.N.Nodup)(hi:X.N[i]?=some x)(hx:Loc X.env.scope x)(r:RelV v u)(h:∀s',Inv X aa (σ.set i (some v)) H s'->(∃a,AR a s.heap s'.heap/\(a=X.env.locals\/X.env.cells.lookup x=some a))->Q () s')(hf:X.fn x=true\/X.env.scope.names.lookup x=some .local:=by first|exact .inl rfl|exact .inr rfl|assumption):wpAny M A (storeName X.env x u) Q E s:=by
 obtain⟨m,J,W⟩:=id I.loc;have gA:(X.env.scope.kind==.class|| (X.env.scope.kind==.module&&X.env.locals != X.env.globals))=false:=by rw[I.ok.kind];rfl
 have f:i<σ.length:=by rw[I.len];exact(List.getElem?_eq_some_iff.mp hi).1
 have cne:=I.cne;have dl:∀{a:Addr}{h':Heap},(∃o,s.heap.get? a=some o/\H a=none)->AR a s.heap h'->HOk X.prog X.w H h':=fun{a h'} ha hs b ob e=>by
  obtain⟨_,_,Y⟩:=ha;refine(I.hok b ob e).stay (fun c D hc q=>(hs.2 c ?_).trans q) (fun _ q=>q) fun _ _ q=>q;rintro rfl;rcases hc with rfl|hc
  ·rw[Y] at e;cases e
  ·rw[Y] at hc;cases hc
 rcases hx with hk|hk
 ·refine wpAny_storeName_local hk J (fun h' iu hs=>?_) gA
  obtain⟨oL,_,_,L,_⟩:=id J;refine h _ ⟨I.ok,I.os,I.bare,⟨fun b o e n hb hx=>?_,fun b o e n hb hx=>?_,I.base.free,fun b o e hx=>?_,I.base.tups,I.base.frzs,I.base.tbls⟩,⟨_,iu,fun j y G e1 e2 e3=>?_⟩,fun y c e=>?_,I.free,I.freeC,fun p hp=>?_,dl ⟨oL,L,I.free⟩ hs,by simpa using I.len⟩ ⟨_,hs,.inl rfl⟩
  ·exact(hs.2 b (Ar (Az (Ah e) I.ok.above))).trans (I.base.keep b o e n hb hx)
  ·obtain⟨O,e1⟩:=I.base.slot b o e n hb hx
   exact⟨O,(hs.2 b (Ar (Az (Ah e) I.ok.above))).trans e1⟩
  ·obtain⟨o',e1⟩:=I.base.there b o e hx
   exact⟨o',(hs.2 b (Ar (Az (Ah e) I.ok.above))).trans e1⟩
  ·by_cases g:j=i
   ·subst g
    rw[hi] at e1;cases e1;rw[List.getElem?_set_self f] at e2;cases e2;exact⟨u,r,.inl ⟨hk,by simp⟩⟩
   ·rw[List.getElem?_set_ne (Ne.symm g)] at e2
    obtain⟨P,S,q⟩:=W j y G e1 e2 e3;refine⟨P,S,?_⟩;rcases q with ⟨k,e⟩|⟨k,c,e,z⟩
    ·refine .inl ⟨k,?_⟩
     have:y≠x:=fun e=>g (sf hN e1 (e▸hi));simp[this,e]
    ·exact .inr ⟨k,c,e,z.sameBut hs (cne y c e)⟩
  ·obtain⟨D,z⟩:=I.cell y c e
   exact⟨D,z.sameBut hs (cne y c e)⟩
  ·obtain⟨e,n,ne,T,d⟩:=I.pin p hp
   exact⟨(hs.2 p.1 ne).trans e,n,ne,T,d⟩
 ·have U:X.fn x=true:=by
   rcases hf with z|z
   ·exact z
   ·rw[z] at hk;cases hk
  obtain⟨c,hc⟩:=I.ok.has x (.inl hk);obtain⟨D,z⟩:=I.cell x c hc;refine wpAny_storeName_cell I.ok.kind hk hc z (fun h' l hs=>?_);obtain⟨Z,nV,lC⟩:=id z;refine h {s with heap:=h'} ⟨I.ok,I.os,I.bare,⟨fun b o e n hb hx=>?_,fun b o e n hb hx=>?_,I.base.free,fun b o e hx=>?_,I.base.tups,I.base.frzs,I.base.tbls⟩,⟨m,J.sameBut hs (Ne.symm (cne x c hc)),fun j y G e1 e2 e3=>?_⟩,fun y F e=>?_,I.free,I.freeC,fun p hp=>?_,dl ⟨Z,nV,I.freeC x c hc⟩ hs,by simpa using I.len⟩ ⟨c,hs,.inr hc⟩
  ·exact(hs.2 b (Ar (Az (Ah e) (I.ok.cab x c U hc)))).trans (I.base.keep b o e n hb hx)
  ·obtain⟨O,e1⟩:=I.base.slot b o e n hb hx
   exact⟨O,(hs.2 b (Ar (Az (Ah e) (I.ok.cab x c U hc)))).trans e1⟩
  ·obtain⟨o',e1⟩:=I.base.there b o e hx
   exact⟨o',(hs.2 b (Ar (Az (Ah e) (I.ok.cab x c U hc)))).trans e1⟩
  ·by_cases g:j=i
   ·subst g
    rw[hi] at e1;cases e1;rw[List.getElem?_set_self f] at e2;cases e2;exact⟨u,r,.inr ⟨.inl hk,c,hc,l⟩⟩
   ·rw[List.getElem?_set_ne (Ne.symm g)] at e2
    obtain⟨P,S,q⟩:=W j y G e1 e2 e3;refine⟨P,S,?_⟩;rcases q with q|⟨k,F,e,z'⟩
    ·exact .inl q
    ·refine .inr ⟨k,F,e,z'.sameBut hs ?_⟩
     rintro rfl;exact g (sf hN e1 (I.ok.inj _ _ _ e hc▸hi))
  ·by_cases C:F=c
   ·subst C;exact⟨_,l⟩
   ·obtain⟨w2,z2⟩:=I.cell y F e
    exact⟨w2,z2.sameBut hs C⟩
  ·obtain⟨e,n,ne,T,d⟩:=I.pin p hp
   refine⟨(hs.2 p.1 ?_).trans e,n,ne,T,d⟩;intro q;rw[q,nV] at e;have q':Z=p.2:=Ai e;exact d D (by rw[<-q'];exact lC)
def nJ{M:Model}{A:Around}{E:Ω}{i:Nat}{x:Str}{v:V}{u:Value}{Q:Unit->Shared->Prop}(I:Inv X aa σ H s)(a:X.N.Nodup)(hi:X.N[i]?=some x)(hx:Loc X.env.scope x)(r:RelV v u)(h:∀s',Inv X aa (σ.set i (some v)) H s'->Q () s')(hf:X.fn x=true\/X.env.scope.names.lookup x=some .local:=by first|exact .inl rfl|exact .inr rfl|assumption):wpAny M A (storeName X.env x u) Q E s:=
 DR I a hi hx r (fun s' b _=>h s' b) hf
def Inv.call'{s':Shared}{ch:List Addr}(I:Inv X aa σ H s)(d:s'.os=s.os)(u:Un (frs X.stack) ch H H' s.heap s'.heap)(a:HOk X.prog X.w H' s'.heap)(f:AllBare s'.gens)(g:∀b∈ch,(b∈X.ex\/X.s₀⁻¹<=b)/\b≠X.env.locals/\(∀x c,X.env.cells.lookup x=some c->c≠b)/\∀p∈X.pn++aa,p.1≠b):Inv X aa σ H' s':=by
 obtain⟨h',g',d',t',o'⟩:=s';have e:o'=s.os:=d;subst e;exact I.call (g':=g') (t':=t') (d':=d') u a f g
end
abbrev XK:=Value->Option Addr->Hp->Prop
abbrev St:=List (Option V)
abbrev VK:=V->Hp->Prop
abbrev TE:=St->Hp->VK->Prop
abbrev TT:=St->Hp->(Bool->Hp->Prop)->Prop
abbrev TA:=St->Hp->(List V->Hp->Prop)->Prop
structure Ends where
 nx:St->Hp->Prop
 rt:VK
 bk:St->Hp->Prop:=fun _ _=>False
 ct:St->Hp->Prop:=fun _ _=>False
abbrev TS:=Ends->St->Hp->Prop
def EP(X:Cx)(aa:Ψ)(σ:St)(Q:VK)(u:Value)(s':Shared):Prop:=∃v H',Inv X aa σ H' s'/\RelV v u/\Q v H'
def TP(X:Cx)(aa:Ψ)(σ:St)(Q:Bool->Hp->Prop)(b:Bool)(s':Shared):Prop:=∃H',Inv X aa σ H' s'/\Q b H'
def AP(X:Cx)(aa:Ψ)(σ:St)(Q:List V->Hp->Prop)(us:List Value)(s':Shared):Prop:=∃vs H',Inv X aa σ H' s'/\Vals vs us/\Q vs H'
def SP(X:Cx)(aa:Ψ)(D:Ends)(f:Flow)(s':Shared):Prop:=
 match f with
 |.next=>∃a H',Inv X aa a H' s'/\D.nx a H'
 |.brk=>∃a H',Inv X aa a H' s'/\D.bk a H'
 |.cont=>∃a H',Inv X aa a H' s'/\D.ct a H'
 |.ret u=>∃v a H',Inv X aa a H' s'/\RelV v u/\D.rt v H'
def PE(X:Cx)(e:Expr)(t:TE):Prop:=
 ∀(aa:Ψ)(s:Shared)(σ:St)(H:Hp)(Q:VK),Inv X aa σ H s->t σ H Q->wpAny (model X.prog X.w) X.A (eval e X.env) (EP X aa σ Q) X.xe s
def PT(X:Cx)(e:Expr)(t:TT):Prop:=
 ∀(aa:Ψ)(s:Shared)(σ:St)(H:Hp)(Q:Bool->Hp->Prop),Inv X aa σ H s->t σ H Q->wpAny (model X.prog X.w) X.A (isTrue e X.env (eval e X.env)) (TP X aa σ Q) X.xe s
def PW(X:Cx)(e:Expr)(t:TT):Prop:=
 ∀(a:Sem Value)(aa:Ψ)(s:Shared)(σ:St)(H:Hp)(Q:Bool->Hp->Prop),Inv X aa σ H s->t σ H Q->wpAny (model X.prog X.w) X.A (isTrue e X.env a) (TP X aa σ Q) X.xe s
def PW.pt{X:Cx}{e:Expr}{t:TT}(h:PW X e t):PT X e t:=h _
def PA(X:Cx)(es:List Expr)(t:TA):Prop:=
 ∀(pos:Pos)(aa:Ψ)(s:Shared)(σ:St)(H:Hp)(Q:List V->Hp->Prop),Inv X aa σ H s->t σ H Q->wpAny (model X.prog X.w) X.A (spliced (backTo pos (starEach es X.env))) (AP X aa σ Q) X.xe s
def PS(X:Cx)(st:Stmt)(t:TS):Prop:=
 ∀(aa:Ψ)(s:Shared)(σ:St)(H:Hp)(D:Ends),Inv X aa σ H s->t D σ H->wpAny (model X.prog X.w) X.A (exec st X.env) (SP X aa D) X.xe s
def PSs(X:Cx)(st:List Stmt)(t:TS):Prop:=
 ∀(aa:Ψ)(s:Shared)(σ:St)(H:Hp)(D:Ends),Inv X aa σ H s->t D σ H->wpAny (model X.prog X.w) X.A (execs st X.env) (SP X aa D) X.xe s
def aR{b:Type}{t:Sem b}{Q c:b->Shared->Prop}{M:Model}{A:Around}{E:Ω}{s:Shared}(h:wpAny M A t Q E s)(d:∀a s,Q a s->c a s):wpAny M A t c E s:=Bd h d fun _ _ x=>x
section
variable{X:Cx}
def a'(i:Nat):TE:=fun σ H Q=>∃v,σ[i]?=some (some v)/\Q v H
def tC(v:V):TE:=fun _ H Q=>Q v H
def DS{i:Nat}{x:Str}{pos:Pos}(f:X.N[i]?=some x)(g:jB X.env.scope x)(hd:(x==("__debug__":Str))=false:=by decide)(j:(x==("__classdict__":Str))=false:=by decide):PE X (.Name x pos) (a' i):=by
 intro aa s σ H Q I h;obtain⟨v,e,h⟩:=h;obtain⟨m,b,d⟩:=I.loc;obtain⟨u,r,l⟩:=d i x v f e g;have fin:EP X aa σ Q u s:=⟨v,H,I,r,h⟩;rcases l with ⟨hk,hm⟩|⟨hk,c,hc,a⟩
 ·exact wpAny_Name (wpAny_loadName_local I.ok.kind hk b hm fin) hd
 ·rcases hk with hk|hk
  ·exact wpAny_Name (wpAny_loadName_cell I.ok.kind hk hc a fin) hd
  ·exact wpAny_Name (wpAny_loadName_free I.ok.kind hk hc a fin j) hd
def zf{i j pos}:PE X (.Constant (.int i) j pos) (tC (.int i)):=fun _ _ _ H _ I h=>wpAny_Constant_int ⟨.int i,H,I.tok _,⟨_,rfl⟩,h⟩
def fC{b j pos}:PE X (.Constant (.bool b) j pos) (tC (.bl b)):=fun _ _ _ H _ I h=>Constant_bool ⟨.bl b,H,I,rfl,h⟩
def fQ{j pos}:PE X (.Constant .none j pos) (tC .non):=fun _ _ _ H _ I h=>Constant_none ⟨.non,H,I,rfl,h⟩
def pe_str{x j pos}:PE X (.Constant (.str x) j pos) (tC (.str x)):=fun _ _ _ H _ I h=>Calls.Constant_str ⟨.str x,H,I.tok _,⟨_,rfl⟩,h⟩
def Gl(X:Cx)(x:Str):Prop:=X.env.kindOf x=some .globalImplicit
def k8{E:Ω}{aa:Ψ}{s:Shared}{σ:St}{H:Hp}{x:Str}{u:Value}{pos:Pos}{Q:Ω}(I:Inv X aa σ H s)(a:Gl X x)(hm:X.mg x=some u)(h:Q u s)(hd:(x==("__debug__":Str))=false:=by decide):wpAny (model X.prog X.w) X.A (eval (.Name x pos) X.env) Q E s:=
 Calls.Name_function_global I.ok.kind a (Calls.loadGlobal_global (by rw[I.ok.glob];exact I.mod.glob.keeps I.bk) hm h) hd
def jD{E:Ω}{aa:Ψ}{s:Shared}{σ:St}{H:Hp}{x:Str}{u:Value}{pos:Pos}{Q:Ω}(I:Inv X aa σ H s)(a:Gl X x)(hm:X.mg x=none)(b:A4 x=some u)(h:Q u s)(c:x≠"__name__":=by decide)(hd:(x==("__debug__":Str))=false:=by decide):wpAny (model X.prog X.w) X.A (eval (.Name x pos) X.env) Q E s:=by
 obtain⟨d,h1,h2⟩:=I.mod.blt;exact Calls.Name_function_global I.ok.kind a (Calls.loadGlobal_builtin (by rw[I.ok.glob];exact I.mod.glob.keeps I.bk) hm (by rw[I.ok.blt];exact h1.keeps I.bk) ((h2 x c).trans b) h) hd
def gP{x:Str}{v:V}{u:Value}{pos:Pos}(a:Gl X x)(hm:X.mg x=some u)(r:RelV v u)(hd:(x==("__debug__":Str))=false:=by decide):PE X (.Name x pos) (tC v):=
 fun _ _ _ H _ I h=>k8 I a hm ⟨v,H,I,r,h⟩ hd
def DT{x:Str}{v:V}{u:Value}{pos:Pos}(a:Gl X x)(hm:X.mg x=none)(b:A4 x=some u)(r:RelV v u)(c:x≠"__name__":=by decide)(hd:(x==("__debug__":Str))=false:=by decide):PE X (.Name x pos) (tC v):=
 fun _ _ _ H _ I h=>jD I a hm b ⟨v,H,I,r,h⟩ c hd
variable{a b:Expr}{ta tb:TE}{pos:Pos}
def PC(X:Cx)(op:CmpOp)(a b:Expr)(t:TE):Prop:=
 ∀(aa:Ψ)(s:Shared)(σ:St)(H:Hp)(Q:VK),Inv X aa σ H s->t σ H Q->
  wpAny (model X.prog X.w) X.A (eval a X.env) (fun v c=>wpAny (model X.prog X.w) X.A (eval b X.env) (fun u d=>wpAny (model X.prog X.w) X.A (compareOp op v u) (EP X aa σ Q) X.xe d) X.xe c) X.xe s
def fR(b:Expr){op:CmpOp}(h:op≠.In)(h2:op≠.NotIn):behindInMarks op b=false:=by
 have e1:(op==CmpOp.In)=false:=by cases op<;>first|rfl|exact absurd rfl h
 have e2:(op==CmpOp.NotIn)=false:=by cases op<;>first|rfl|exact absurd rfl h2
 cases b<;>simp[behindInMarks,e1,e2]
def tB(t:TE):TT:=fun σ H Q=>t σ H fun x H1=>∃c,x=.bl c/\Q c H1
def DU{op:CmpOp}{t:TE}(h:PC X op a b t)(h1:behindInMarks op b=false:=by first|exact fR _ ξ ξ|rfl):PT X (.Compare a [op] [b] pos) (tB t):=by
 intro aa s σ H Q I hw;refine wpAny_isTrue_Compare1 (aR (h aa s σ H _ I hw) fun v i h1=>aR h1 fun u j h2=>aR h2 fun c l ⟨x,H1,g,e,f⟩=>?_) h1;obtain⟨d,rfl,q⟩:=f;cases e;exact wpAny_truthy_bool ⟨H1,g,q⟩
def iE{e:Expr}{t:TE}(h:PE X e t)(he:∀a,isTrue e X.env a=(do let v <-a;standAt e.pos;holding [v] (truthy v)):=by intro _;rfl):PT X e (tB t):=by
 intro aa s σ H Q I hw;refine isTrue_plain (aR (h aa s σ H _ I hw) fun v g ⟨x,H1,f,b,c⟩=>?_) (he _);obtain⟨d,rfl,q⟩:=c;cases b;exact wpAny_truthy_bool ⟨H1,f,q⟩
variable{tA kh:TT}{rest:List Expr}
def sh(t u:TT):TT:=fun σ H Q=>t σ H fun c H1=>if c=true then u σ H1 Q else Q false H1
def DV(t u:TT):TT:=fun σ H Q=>t σ H fun c H1=>if c=true then Q true H1 else u σ H1 Q
def sj(t:TT):TT:=fun σ H Q=>t σ H fun c H1=>Q (!c) H1
def sk(b:PT X a tA):PW X (.BoolOp .And [a] pos) tA:=by
 intro d aa s σ H Q I h;refine isTrue_and (aR (b aa s σ H Q I h) fun c f e=>?_);cases c with
 |true=>exact isTrue_and_nil e
 |false=>exact e
def jF(b:PT X a tA):PW X (.BoolOp .Or [a] pos) tA:=by
 intro d aa s σ H Q I h;refine isTrue_or (aR (b aa s σ H Q I h) fun c f e=>?_);cases c with
 |false=>exact isTrue_or_nil e
 |true=>exact e
def sr(i:PT X a tA)(hb:PW X (.BoolOp .And (b::rest) pos) kh):PW X (.BoolOp .And (a::b::rest) pos) (sh tA kh):=by
 intro f aa s σ H Q I h;refine isTrue_and (aR (i aa s σ H _ I h) fun c g ⟨H1,e,d⟩=>?_);cases c with
 |true=>exact hb f aa g σ H1 Q e d
 |false=>exact⟨H1,e,d⟩
def i4(i:PT X a tA)(hb:PW X (.BoolOp .Or (b::rest) pos) kh):PW X (.BoolOp .Or (a::b::rest) pos) (DV tA kh):=by
 intro f aa s σ H Q I h;refine isTrue_or (aR (i aa s σ H _ I h) fun c g ⟨H1,e,d⟩=>?_);cases c with
 |true=>exact⟨H1,e,d⟩
 |false=>exact hb f aa g σ H1 Q e d
def fU(b:PT X a tA):PT X (.UnaryOp .Not a pos) (sj tA):=by
 intro aa s σ H Q I h;exact isTrue_not (b aa s σ H (fun c H1=>Q (!c) H1) I h)
def DW(ta tb:TE):TE:=fun σ H Q=>ta σ H fun x H1=>∃c,x=.bl c/\if c=true then tb σ H1 Q else Q (.bl false) H1
def xO{op}{t:TE}(h:PE X a t):PE X (.BoolOp op [a] pos) t:=fun aa s σ H Q I hw=>BoolOp_one (h aa s σ H Q I hw)
def xQ(i:PE X a ta)(hb:PE X (.BoolOp .And (b::rest) pos) tb):PE X (.BoolOp .And (a::b::rest) pos) (DW ta tb):=by
 intro aa s σ H Q I h;refine BoolOp_and (aR (i aa s σ H _ I h) fun v f ⟨x,H1,e,g,d⟩=>?_);obtain⟨c,rfl,d⟩:=d;cases g;refine wpAny_truthy_bool ?_;cases c with
 |true=>exact hb aa f σ H1 Q e d
 |false=>exact⟨.bl false,H1,e,rfl,d⟩
def DX(t:TT)(ta tb:TE):TE:=fun σ H Q=>t σ H fun c H1=>if c=true then ta σ H1 Q else tb σ H1 Q
def DY{c:Expr}(hc:PT X c tA)(i:PE X a ta)(hb:PE X b tb):PE X (.IfExp c a b pos) (DX tA ta tb):=by
 intro aa s σ H Q I h;refine wpAny_IfExp (aR (hc aa s σ H _ I h) fun d e ⟨H1,g,f⟩=>?_);cases d with
 |true=>exact i aa e σ H1 Q g f
 |false=>exact hb aa e σ H1 Q g f
end
def SqL(K:Ae)(H:Hp)(a:Addr)(xs:List V):Prop:=
 Rd H a (.lst xs) \/
  ∃(o:Obj)(b:Array Value)(n:Nat),K.lookup a=some o/\o.cls=.type "list"/\o.dict=none/\o.data=.seq b n/\b.size<=sizeLine/\Vals xs b.toList
def SqT(K:Ae)(H:Hp)(a:Addr)(xs:List V):Prop:=
 Rd H a (.tup xs) \/
  ∃(o:Obj)(b:Array Value)(n:Nat),K.lookup a=some o/\o.cls=.type "tuple"/\o.data=.seq b n/\b.size<=sizeLine/\Vals xs b.toList
def sA:Value->Option V
 |.none=>some .non
 |.bool b=>some (.bl b)
 |.int i _=>some (.int i)
 |.str x _=>some (.str x)
 |.bytes b _=>some (.byt b)
 |.float b _=>some (.flt b)
 |.ref a=>some (.ref a)
 |.type n=>some (.ty n)
 |_=>none
def RelV.abs{x:V}{u:Value}(r:RelV x u):sA u=some x:=by
 cases x with
 |non=>cases r;rfl
 |bl _=>cases r;rfl
 |int _=>obtain⟨t,rfl⟩:=r;rfl
 |str _=>obtain⟨t,rfl⟩:=r;rfl
 |byt _=>obtain⟨t,rfl⟩:=r;rfl
 |flt _=>obtain⟨t,rfl⟩:=r;rfl
 |ref _=>cases r;rfl
 |ty _=>cases r;rfl
def RelV.inj{x y:V}{u:Value}(r:RelV x u)(q:RelV y u):x=y:=Ai (r.abs.symm.trans q.abs)
def Vals.inj{xs ys:List V}{us:List Value}(h:Vals xs us)(g:Vals ys us):xs=ys:=by
 induction h generalizing ys with
 |nil=>cases g;rfl
 |cons r t ih=>cases g with|cons r' t'=>rw[r.inj r',ih t']
section
variable{X:Cx}{aa:Ψ}{σ:St}{H:Hp}{s:Shared}{a:Addr}{xs ys:List V}
def SqL.of{K:Ae}(h:H a=some (.lst xs)):SqL K H a xs:=.inl (.inl h)
def SqT.of{K:Ae}(h:H a=some (.tup xs)):SqT K H a xs:=.inl (.inl h)
def Inv.list(I:Inv X aa σ H s)(h:SqL X.K H a xs):∃b:List Value,Vals xs b/\PlainL s.heap a b.toArray/\xs.length<=sizeLine:=by
 rcases h with h|⟨o,b,n,hk,hc,hd,hs,c,r⟩
 ·obtain⟨z,b,n,r,e⟩:=h.ok I.hok
  exact⟨b,r,⟨_,n,e,rfl,rfl,rfl⟩,z⟩
 ·refine⟨b.toList,r,⟨o,n,I.kIn a o hk,hc,hd,by simpa using hs⟩,?_⟩
  have e:=r.length;simp only[Au] at e;omega
def Inv.tuple(I:Inv X aa σ H s)(h:SqT X.K H a xs):∃b:List Value,Vals xs b/\IsTup s.heap a b.toArray/\xs.length<=sizeLine:=by
 rcases h with h|⟨o,b,n,hk,hc,hs,c,r⟩
 ·obtain⟨z,b,r,p⟩:=h.ok I.hok
  exact⟨b,r,p,z⟩
 ·refine⟨b.toList,r,⟨o,I.kIn a o hk,hc,n,by simpa using hs⟩,?_⟩
  have e:=r.length;simp only[Au] at e;omega
def Inv.list_inj(I:Inv X aa σ H s)(h:SqL X.K H a xs)(h':SqL X.K H a ys):xs=ys:=by
 obtain⟨c,r,⟨o,n,e,_,_,d⟩,_⟩:=I.list h;obtain⟨its',f,⟨o',g,b,_,_,d'⟩,_⟩:=I.list h';rw[e] at b;cases b;rw[d] at d';injection d' with d1 _
 have:c=its':=by simpa using congrArg Array.toList d1
 subst this;exact r.inj f
def Inv.tuple_inj(I:Inv X aa σ H s)(h:SqT X.K H a xs)(h':SqT X.K H a ys):xs=ys:=by
 obtain⟨c,r,⟨o,e,_,n,d⟩,_⟩:=I.tuple h;obtain⟨its',f,⟨o',b,_,g,d'⟩,_⟩:=I.tuple h';rw[e] at b;cases b;rw[d] at d';injection d' with d1 _
 have:c=its':=by simpa using congrArg Array.toList d1
 subst this;exact r.inj f
end
abbrev Cx.wish(X:Cx)(E:Ω):Cx:={X with xe:=E}
abbrev Cx.nox(X:Cx):Cx:=X.wish fun _ _=>False
def Cx.Ok.wish{X:Cx}(ok:X.Ok)(E:Ω):(X.wish E).Ok:=
 ⟨ok.mod,ok.kind,ok.glob,ok.blt,ok.above,ok.inj,ok.has,ok.cab,ok.hd,ok.frames,ok.stk,ok.exf,ok.bs,ok.bsz,ok.noex,ok.exfs,ok.funs,ok.frf⟩
def Cx.Ok.unwish{X:Cx}{E:Ω}(ok:(X.wish E).Ok):X.Ok:=
 ⟨ok.mod,ok.kind,ok.glob,ok.blt,ok.above,ok.inj,ok.has,ok.cab,ok.hd,ok.frames,ok.stk,ok.exf,ok.bs,ok.bsz,ok.noex,ok.exfs,ok.funs,ok.frf⟩
section
variable{X:Cx}{aa:Ψ}{σ:St}{H:Hp}{s:Shared}{E:Ω}
def Inv.wish(I:Inv X aa σ H s)(E:Ω):Inv (X.wish E) aa σ H s:=⟨I.ok.wish E,I.os,I.bare,I.base,I.loc,I.cell,I.free,I.freeC,I.pin,I.hok,I.len⟩
def Inv.unwish(I:Inv (X.wish E) aa σ H s):Inv X aa σ H s:=⟨I.ok.unwish,I.os,I.bare,I.base,I.loc,I.cell,I.free,I.freeC,I.pin,I.hok,I.len⟩
def SP.unwish{D:Ends}{f:Flow}{s':Shared}(h:SP (X.wish E) aa D f s'):SP X aa D f s':=by
 cases f with
 |next=>obtain⟨a,H',I,q⟩:=h;exact⟨a,H',I.unwish,q⟩
 |brk=>obtain⟨a,H',I,q⟩:=h;exact⟨a,H',I.unwish,q⟩
 |cont=>obtain⟨a,H',I,q⟩:=h;exact⟨a,H',I.unwish,q⟩
 |ret u=>obtain⟨v,a,H',I,r,q⟩:=h;exact⟨v,a,H',I.unwish,r,q⟩
def PSs.nox{st:List Stmt}{t:TS}(h:PSs X.nox st t):PSs X st t:=fun aa s σ H D I hw=>
 Bd (h aa s σ H D (I.wish _) hw) (fun _ _ q=>q.unwish) fun _ _ z=>False.elim z
end
section
variable{X:Cx}{st:Stmt}{rest:List Stmt}{t u:TS}{e:Expr}{te:TE}{pos:Pos}
def DZ:TS:=fun D σ H=>D.nx σ H
def k9(t u:TS):TS:=fun D σ H=>t {D with nx:=u D} σ H
def zp:PSs X [] DZ:=fun _ _ σ H _ I h=>wpAny_execs_nil ⟨σ,H,I,h⟩
def za(h1:PS X st t)(h2:PSs X rest u):PSs X (st::rest) (k9 t u):=by
 intro aa s σ H D I h;refine wpAny_execs_cons (aR (h1 aa s σ H {D with nx:=u D} I h) fun f a q=>?_);cases f with
 |next=>
  obtain⟨b,H',c,q⟩:=q;exact h2 aa a b H' D c q
 |ret v=>exact q
 |brk=>exact q
 |cont=>exact q
def zd(h1:PS X st t):PSs X [st] t:=by
 intro aa s σ H D I h;refine wpAny_execs_cons (aR (h1 aa s σ H D I h) fun f a q=>?_);cases f with
 |next=>exact wpAny_execs_nil q
 |ret v=>exact q
 |brk=>exact q
 |cont=>exact q
def Inv.quiet{aa:Ψ}{σ:St}{H:Hp}{s:Shared}(I:Inv X aa σ H s):interactive X.env=false:=by simp[interactive,I.ok.kind]
def D0(te:TE):TS:=fun D σ H=>te σ H fun _ H1=>D.nx σ H1
def zR(he:PE X e te)(hs:swapsWith e none pos.line X.env=pure false:=by rfl):PS X (.Expr e pos) (D0 te):=by
 intro aa s σ H D I h;exact wpAny_Expr_any (aR (he aa s σ H _ I h) fun v c ⟨x,H1,b,d,a⟩=>⟨σ,H1,b,a⟩) I.quiet hs
def sB(te:TE):TS:=fun D σ H=>te σ H D.rt
def zm(he:PE X e te):PS X (.Return (some e) pos) (sB te):=by
 intro aa s σ H D I h;exact wpAny_Return_some (aR (he aa s σ H _ I h) fun v d ⟨x,H1,c,a,b⟩=>⟨x,σ,H1,c,a,b⟩)
def sF(c:TT)(t u:TS):TS:=fun D σ H=>c σ H fun b H1=>if b=true then t D σ H1 else u D σ H1
def zI{c:Expr}{a b:List Stmt}{tc:TT}(hc:PT X c tc)(i:PSs X a t)(hb:PSs X b u):PS X (.If c a b pos) (sF tc t u):=by
 intro aa s σ H D I h;refine wpAny_If (aR (hc aa s σ H _ I h) fun d e ⟨H1,g,f⟩=>?_);cases d with
 |true=>exact i aa e σ H1 D g f
 |false=>exact hb aa e σ H1 D g f
def D4:TS:=fun _ _ _=>False
def sG{a:List Stmt}:PSs X a D4:=fun _ _ _ _ _ _ h=>h.elim
end
abbrev TG:=V->St->Hp->(St->Hp->Prop)->Prop
abbrev i5:=List V->St->Hp->(St->Hp->Prop)->Prop
def PG(X:Cx)(b:Expr)(t:TG):Prop:=
 ∀(aa:Ψ)(s:Shared)(σ:St)(H:Hp)(v:V)(u:Value)(Q:St->Hp->Prop),Inv X aa σ H s->RelV v u->t v σ H Q->
  wpAny (model X.prog X.w) X.A (assign b X.env u) (fun _ s'=>∃a H',Inv X aa a H' s'/\Q a H') X.xe s
def nK(X:Cx)(ts:List Expr)(t:i5):Prop:=
 ∀(aa:Ψ)(s:Shared)(σ:St)(H:Hp)(vs:List V)(us:List Value)(Q:St->Hp->Prop),Inv X aa σ H s->Vals vs us->t vs σ H Q->
  wpAny (model X.prog X.w) X.A (assignInOrder ((assignEach ts X.env).map (·.2)) us) (fun _ s'=>∃a H',Inv X aa a H' s'/\Q a H') X.xe s
abbrev i7:=V->V->V->Hp->(Hp->Prop)->Prop
def k_(X:Cx)(t:i7):Prop:=
 ∀(aa:Ψ)(s:Shared)(σ:St)(H:Hp)(o i v:V)(a b u:Value)(Q:Hp->Prop),Inv X aa σ H s->RelV o a->RelV i b->RelV v u->t o i v H Q->
  wpAny (model X.prog X.w) X.A (setItem a b u) (fun _ s'=>∃H',Inv X aa σ H' s'/\Q H') X.xe s
section
variable{X:Cx}{pos:Pos}
def dc(i:Nat):TG:=fun v σ H Q=>Q (σ.set i (some v)) H
def zr{i:Nat}{x:Str}(a:X.N.Nodup)(hi:X.N[i]?=some x)(hx:Loc X.env.scope x)(hf:X.fn x=true\/X.env.scope.names.lookup x=some .local:=by first|exact .inl rfl|exact .inr rfl|assumption):PG X (.Name x pos) (dc i):=by
 intro aa s σ H v u Q I r h;exact wpAny_assign_Name (nJ I a hi hx r (fun s' b=>⟨_,H,b,h⟩) hf)
def la:i5:=fun vs σ H Q=>vs=[]/\Q σ H
def sK(t:TG)(u:i5):i5:=fun vs σ H Q=>∃v r,vs=v::r/\t v σ H fun a H'=>u r a H' Q
def D5:nK X [] la:=by
 intro aa s σ H vs us Q I r h;obtain⟨e,h⟩:=h;subst e;cases r;exact assignInOrder_nil ⟨σ,H,I,h⟩
def xR{e:Expr}{es:List Expr}{t:TG}{u:i5}(h1:PG X e t)(h2:nK X es u)(hs:(assignEach (e::es) X.env).map (·.2)=assign e X.env::(assignEach es X.env).map (·.2):=by rfl):nK X (e::es) (sK t u):=by
 intro aa s σ H vs us Q I r h;obtain⟨v,f,e1,h⟩:=h;subst e1;cases r with
 |cons r rr=>
  rw[hs];refine assignInOrder_cons (aR (h1 aa s σ H _ _ _ I r h) fun _ a ⟨b,H1,d,c⟩=>?_);exact h2 aa a b H1 _ _ Q d rr c
def lb(K:Ae)(n:Nat)(t:i5):TG:=fun v σ H Q=>∃a xs,v=.ref a/\SqT K H a xs/\xs.length=n/\t xs σ H Q
def D6{es:List Expr}{k:Nat}{t:i5}{n:Nat}(hc:X.calm=true)(h:nK X es t)(g:(assignEach es X.env).length=n:=by rfl)(c:(assignEach es X.env).findIdx? (·.1)=none:=by rfl):PG X (.Tuple es k pos) (lb X.K n t):=by
 intro aa s σ H v u Q I r hw;obtain⟨a,xs,e1,hq,f,hw⟩:=hw;subst e1;cases r;obtain⟨j,d,ht,l⟩:=I.tuple hq;refine assign_Tuple_tuple (I.ok.hd hc) ht (by simp[g,<-f,d.length]) c fun h' hx=>?_;have i:Inv X aa σ H {s with heap:=h'}:=I.kept (t':=s.toks) fun b o e=>hx b o (Ar (Ah e)) e;exact h aa _ σ H xs _ Q i (by simpa using d) hw
def sL(to a:TE)(t:i7):TG:=fun v σ H Q=>to σ H fun o H1=>a σ H1 fun i H2=>t o i v H2 fun b=>Q σ b
def xS{o i:Expr}{to c:TE}{t:i7}(q:PE X o to)(hi:PE X i c)(hs:k_ X t)(w:∀v,assign (.Subscript o i pos) X.env v=(do
   let a <-holding [v] (eval o X.env)
   let b <-holding [v,a] (eval i X.env)
   standAt pos
   holding [v,a,b] (setItem a b v)
   release [v,a,b] []):=by intro _;rfl):PG X (.Subscript o i pos) (sL to c t):=by
 intro aa s σ H v u Q I r h;rw[w];refine Aa (AU (aR (q aa s σ H _ I h) fun a d ⟨x,H1,z,e,f⟩=>?_));refine Aa (AU (aR (hi aa d σ H1 _ z f) fun b g ⟨y,H2,A,j,l⟩=>?_));refine Aa (wpAny_standAt (Aa (AU (aR (hs aa g σ H2 x y v a b u _ A e j r l) fun _ E ⟨C,D,p⟩=>?_))));exact wpAny_release ⟨σ,C,D,p⟩
def lf(te:TE)(g:TG):TS:=fun D σ H=>te σ H fun x H1=>g x σ H1 D.nx
def xT{tg e:Expr}{te:TE}{g:TG}(he:PE X e te)(d:PG X tg g)(hs:swapsWithSole [tg] e pos.line X.env=pure false:=by rfl)(hw:swappedStores [tg] e X.env=pure none:=by rfl)(h1:(assignEach [tg] X.env).map (·.2)=[assign tg X.env]:=by rfl):PS X (.Assign [tg] e pos) (lf te g):=by
 intro aa s σ H D I h;refine wpAny_Assign_stores (aR (he aa s σ H _ I h) fun v a ⟨x,H1,f,b,c⟩=>?_) hs hw;rw[h1];exact aR (d aa a σ H1 x v _ f b c) fun _ i q=>q
def zj{i:Nat}{x:Str}{e:Expr}{te:TE}{dz:Pos}(c:X.N.Nodup)(hi:X.N[i]?=some x)(hx:Loc X.env.scope x)(he:PE X e te)(hs:swapsWith e (some (.Name x dz)) pos.line X.env=pure false:=by rfl)(hf:X.fn x=true\/X.env.scope.names.lookup x=some .local:=by first|exact .inl rfl|exact .inr rfl|assumption):PS X (.Assign [.Name x dz] e pos) (lf te (dc i)):=by
 intro aa s σ H D I h;refine wpAny_Assign_Name (aR (he aa s σ H _ I h) fun v g ⟨y,H1,d,a,b⟩=>?_) hs;exact nJ d c hi hx a (fun j f=>⟨_,H1,f,b⟩) hf
def D7(c:TT)(tb:TS):TS:=fun D σ H=>∃W:Nat->St->Hp->Prop,(∃m,W m σ H)/\∀m σ H,W m σ H->
 c σ H fun b H1=>if b=true then ∃N:St->Hp->Prop,(∀a H',N a H'->∃d,d<m/\W d a H')/\tb {D with nx:=N,ct:=N,bk:=D.nx} σ H1 else D.nx σ H1
def D8{c:Expr}{body:List Stmt}{tc:TT}{tb:TS}(hp:PassesOwn (model X.prog X.w) X.A X.env X.xe)(hc:PT X c tc)(hb:PSs X body tb):PS X (.While c body [] pos) (D7 tc tb):=by
 intro aa s σ H D I h;obtain⟨W,⟨y,z⟩,turn⟩:=h;refine wpAny_While (codeAny_whileLoop (fun n s'=>∃q H',Inv X aa q H' s'/\W n q H') ?_ y ⟨σ,H,I,z⟩);rintro n C ⟨i,H1,F,E⟩;refine wpAny_passesOwn hp (aR (hc aa C i H1 _ F (turn n i H1 E)) fun b x ⟨H2,u,e⟩=>?_);cases b with
 |true=>
  obtain⟨N,r,e⟩:=e;rw[if_pos rfl];refine wpAny_passesOwn hp (aR (hb aa x i H2 _ u e) fun f G g=>?_);cases f with
  |next=>
   obtain⟨a,d,p,j⟩:=g;obtain⟨l,hm,o⟩:=r a d j;exact⟨l,hm,a,d,p,o⟩
  |cont=>
   obtain⟨a,d,p,j⟩:=g;obtain⟨l,hm,o⟩:=r a d j;exact⟨l,hm,a,d,p,o⟩
  |brk=>exact g
  |ret v=>exact g
 |false=>
  rw[if_neg As];exact wpAny_execs_nil ⟨i,H2,u,e⟩
end
structure It where
 go:Nat->Hp->Prop
 yld:Nat->Hp->V->Hp->Prop
 stop:Nat->Hp->Prop
def bF(X:Cx)(aa:Ψ)(H:Hp)(b:Addr):Prop:=
 H b=none/\b≠X.env.locals/\b∉X.fs/\(b∈X.ex\/X.s₀⁻¹<=b)/\(∀x c,X.env.cells.lookup x=some c->c≠b)/\∀p∈X.pn++aa,p.1≠b
def Inv.fpOk{X:Cx}{aa:Ψ}{σ:St}{H H':Hp}{s:Shared}{b:Addr}(I:Inv X aa σ H s)(hb:s⁻¹<=b)(a:H' b=none):bF X aa H' b:=by
 refine⟨a,Nat.ne_of_gt (Az I.lt hb),I.nofs hb,.inr (AA I.sz hb),fun x c e z=>?_,fun p hp z=>?_⟩
 ·obtain⟨v,q⟩:=I.cell x c e
  exact absurd (Az q.lt (by rw[z];exact hb)) (Nat.lt_irrefl _)
 ·exact absurd (Az (Ah (I.pin p hp).1) (by rw[z];exact hb)) (Nat.lt_irrefl _)
structure Turn(P:Program)(w:World)(K:Ae)(tg:Expr)(J:It)(fp:List Addr)(it:Addr)(tn:Nat->Heap->Prop):Prop where
 mem:it∈fp
 obj:∀i h,tn i h->∀b∈fp,∃o,h.get? b=some o/\∀v,o.data≠.cell v
 keep:∀i h h',tn i h->(∀b∈fp,∀o,h.get? b=some o->h'.get? b=some o)->tn i h'
 item:∀(X:Cx),X.prog=P->X.w=w->X.K=K->X.calm=true->∀(i:Nat)(aa:Ψ)(s:Shared)(σ:St)(H:Hp)(E:Ω),Inv X aa σ H s->(∀b∈fp,bF X aa H b)->tn i s.heap->J.go i H->
  wpAny (model P w) X.A (pyNext (.ref it)) (fun r s1=>∃u,r=some u/\
   wpAny (model P w) X.A (letOwnedTupleGo tg (.ref it) u) (fun _ s2=>∃x H',Inv X aa σ H' s2/\RelV x u/\J.yld i H x H'/\tn (i+1) s2.heap/\∀b∈fp,H' b=none) E s1) E s
 done:∀(X:Cx),X.prog=P->X.w=w->X.K=K->X.calm=true->∀(i:Nat)(aa:Ψ)(s:Shared)(σ:St)(H:Hp)(E:Ω),Inv X aa σ H s->(∀b∈fp,bF X aa H b)->tn i s.heap->J.stop i H->
  wpAny (model P w) X.A (pyNext (.ref it)) (fun r s1=>r=none/\Inv X aa σ H s1) E s
 self:∀(A:Around)(i:Nat)(s:Shared)(Q:Ω)(E:Ω),tn i s.heap->Q (.ref it) s->wpAny (model P w) A (pyIter (.ref it)) Q E s
abbrev TI:=St->Hp->(It->Hp->Prop)->Prop
def sN(X:Cx)(aa:Ψ)(σ:St)(tg:Expr)(R:It->Hp->Prop)(d:Value)(a:Shared):Prop:=
 ∃(it:Addr)(fp:List Addr)(c:Nat->Heap->Prop)(J:It)(H':Hp),d=.ref it/\Inv X aa σ H' a/\Turn X.prog X.w X.K tg J fp it c/\c 0 a.heap/\(∀b∈fp,bF X aa H' b)/\R J H'
def PI(X:Cx)(tg iter:Expr)(wi:TI):Prop:=
 ∀(aa:Ψ)(s:Shared)(σ:St)(H:Hp)(R:It->Hp->Prop),Inv X aa σ H s->wi σ H R->
  wpAny (model X.prog X.w) X.A (eval iter X.env) (fun v a=>wpAny (model X.prog X.w) X.A (pyIter v) (sN X aa σ tg R) X.xe a) X.xe s
def lg{M:Model}{A:Around}{E:Ω}{s:Shared}{tg:Expr}{it:Addr}{u:Value}{o:Obj}{n:String}{vs:Array Value}{Q:Unit->Shared->Prop}(b:s.heap.get? it=some o)(hc:o.cls=.type n)(hd:o.data=.fields vs)(c:["enumerate","zip","dict_itemiterator","dict_reverseitemiterator","odict_iterator","itertools.zip_longest","itertools.pairwise"].contains n=false)(a:Q () s):wpAny M A (letOwnedTupleGo tg (.ref it) u) Q E s:=by
 unfold letOwnedTupleGo;cases tg<;>first
  |exact Ac a
  |(cases u<;>first
    |exact Ac a
    |(refine Aa (wpAny_load b ?_);rw[hc,hd];show wpAny M A (if(["enumerate","zip","dict_itemiterator","dict_reverseitemiterator","odict_iterator","itertools.zip_longest","itertools.pairwise"].contains n&&vs[0]?==some (rawInt _))=true then _ else _) Q E s;rw[if_neg (by intro h;rw[c,A9] at h;cases h)];exact Ac a))
def et(K:Ae)(a:Addr):It:=
 ⟨fun i H=>∃xs x,SqL K H a xs/\xs[i]?=some x,fun i H x H'=>H'=H/\∀xs,SqL K H a xs->xs[i]?=some x,fun i H=>∃xs,SqL K H a xs/\xs.length<=i⟩
def iF(K:Ae)(a:Addr):It:=
 ⟨fun i H=>∃xs x,SqT K H a xs/\xs[i]?=some x,fun i H x H'=>H'=H/\∀xs,SqT K H a xs->xs[i]?=some x,fun i H=>∃xs,SqT K H a xs/\xs.length<=i⟩
def jG(lo:Int)(n:Nat):It:=⟨fun i _=>i<n,fun i H x H'=>H'=H/\x=.int (lo+i),fun i _=>n<=i⟩
def D9{P:Program}{w:World}{K:Ae}{tg:Expr}(a it:Addr):Turn P w K tg (et K a) [it] it (fun i h=>h.IsListIter it a i) where
 mem:=by simp
 obj:=fun i h st b hb=>by
  have e:b=it:=by simpa using hb
  subst e;obtain⟨o,e,c,d⟩:=st;exact⟨o,e,fun v z=>by rw[d] at z;cases z⟩
 keep:=fun i h h' st k=>st.at fun o e=>k it (by simp) o e
 item:=by
  intro X f hw g hc i aa s σ H E I hf st j;subst f hw g;obtain⟨xs,x,hq,hx⟩:=j;obtain⟨A,l,p,C⟩:=I.list hq;obtain⟨u,hu,D⟩:=l.get hx;obtain⟨f0,f1,f2,f3,f4,f5⟩:=hf it (by simp);refine wpAny_pyNext_list_item st p.isList (x:=u) (by simpa using hu) fun h' q r=>?_;have F:Inv X aa σ H {s with heap:=h'}:=I.turned (t':=s.toks) (fun b o hb e=>(r.2 b hb).trans e) f0 f1 f3 f4 f5;obtain⟨o,e,c,d⟩:=id q;exact⟨u,rfl,lg (s:={s with heap:=h'}) e c d ξ ⟨x,H,F,D,⟨rfl,fun ys hy=>by rw[I.list_inj hy hq];exact hx⟩,q,fun b hb=>(hf b hb).1⟩⟩
 done:=by
  intro X f hw g hc i aa s σ H E I hf st j;subst f hw g;obtain⟨xs,hq,hx⟩:=j;obtain⟨A,l,p,C⟩:=I.list hq;obtain⟨f0,f1,f2,f3,f4,f5⟩:=hf it (by simp);have G:=l.length;exact wpAny_pyNext_list_end (I.ok.hd hc) st p.isList (by simp;omega) fun h' y=>⟨rfl,I.turned (t':=s.toks) (fun b o hb e=>y b o hb e) f0 f1 f3 f4 f5⟩
 self:=fun _ _ _ _ _ st h=>wpAny_pyIter_listiter st h
def D_{P:Program}{w:World}{K:Ae}{tg:Expr}(a it:Addr):Turn P w K tg (iF K a) [it] it (fun i h=>h.IsTupleIter it a i) where
 mem:=by simp
 obj:=fun i h st b hb=>by
  have e:b=it:=by simpa using hb
  subst e;obtain⟨o,e,c,d⟩:=st;exact⟨o,e,fun v z=>by rw[d] at z;cases z⟩
 keep:=fun i h h' st k=>st.at fun o e=>k it (by simp) o e
 item:=by
  intro X f hw g hc i aa s σ H E I hf st j;subst f hw g;obtain⟨xs,x,hq,hx⟩:=j;obtain⟨l,q,p,C⟩:=I.tuple hq;obtain⟨u,hu,D⟩:=q.get hx;obtain⟨f0,f1,f2,f3,f4,f5⟩:=hf it (by simp);refine wpAny_pyNext_tuple_item st (show s.heap.IsTuple a l.toArray from p) (x:=u) (by simpa using hu) fun h' r y=>?_;have F:Inv X aa σ H {s with heap:=h'}:=I.turned (t':=s.toks) (fun b o hb e=>(y.2 b hb).trans e) f0 f1 f3 f4 f5;obtain⟨o,e,c,d⟩:=id r;exact⟨u,rfl,lg (s:={s with heap:=h'}) e c d ξ ⟨x,H,F,D,⟨rfl,fun ys hy=>by rw[I.tuple_inj hy hq];exact hx⟩,r,fun b hb=>(hf b hb).1⟩⟩
 done:=by
  intro X f hw g hc i aa s σ H E I hf st j;subst f hw g;obtain⟨xs,hq,hx⟩:=j;obtain⟨l,q,p,C⟩:=I.tuple hq;obtain⟨f0,f1,f2,f3,f4,f5⟩:=hf it (by simp);have G:=q.length;exact wpAny_pyNext_tuple_end (I.ok.hd hc) st (show s.heap.IsTuple a l.toArray from p) (by simp;omega) fun h' A=>⟨rfl,I.turned (t':=s.toks) (fun b o hb e=>A b o hb e) f0 f1 f3 f4 f5⟩
 self:=fun _ _ _ _ _ st h=>wpAny_pyIter_tupleiter st h
def Ea{P:Program}{w:World}{K:Ae}{tg:Expr}(it:Addr)(lo:Int)(n:Nat):Turn P w K tg (jG lo n) [it] it (fun i h=>IsRangeIter h it (lo+(i:Nat)*1) ((n:Int)-(i:Nat)) 1) where
 mem:=by simp
 obj:=fun i h st b hb=>by
  have e:b=it:=by simpa using hb
  subst e;exact⟨_,st,fun v z=>by
   have p:Data.fields _=Data.cell v:=z;cases p⟩
 keep:=fun i h h' st k=>k it (by simp) _ st
 item:=by
  intro X a hw c hc i aa s σ H E I hf st d;subst a hw c;obtain⟨f0,f1,f2,f3,f4,f5⟩:=hf it (by simp);have W:=Walks.range (prog:=X.prog) (w:=X.w) (I.ok.hd hc) it lo 1 n;refine W.item i s _ _ d st fun v h' tk g f j=>?_;obtain⟨t,rfl⟩:=g;have q:Inv X aa σ H {s with heap:=h',toks:=tk}:=I.turned (fun b o hb e=>j b o (by simpa using hb) e) f0 f1 f3 f4 f5;refine⟨_,rfl,lg (s:={s with heap:=h',toks:=tk}) (n:="range_iterator") f rfl rfl ξ ⟨.int (lo+i),H,q,⟨t,?_⟩,⟨rfl,rfl⟩,f,fun b hb=>(hf b hb).1⟩⟩;rw[Int.mul_one]
 done:=by
  intro X a hw c hc i aa s σ H E I hf st d;subst a hw c;obtain⟨f0,f1,f2,f3,f4,f5⟩:=hf it (by simp);exact wpAny_pyNext_range_end (I.ok.hd hc) st (by have:n<=i:=d;omega) fun h' l=>⟨rfl,I.turned (t':=s.toks) (fun b o hb e=>l b o hb e) f0 f1 f3 f4 f5⟩
 self:=fun _ _ _ _ _ st h=>wpAny_pyIter_rangeiter st h
section
variable{X:Cx}{tg:Expr}
def Eb(K:Ae)(tl:TE):TI:=fun σ H R=>tl σ H fun x H1=>∃a,x=.ref a/\(∃xs,SqL K H1 a xs)/\R (et K a) H1
def sQ(K:Ae)(tl:TE):TI:=fun σ H R=>tl σ H fun x H1=>∃a,x=.ref a/\(∃xs,SqT K H1 a xs)/\R (iF K a) H1
def zG{l:Expr}{tl:TE}(g:PE X l tl):PI X tg l (Eb X.K tl):=by
 intro aa s σ H R I h;refine aR (g aa s σ H _ I h) fun v c ⟨x,H1,I1,d,f⟩=>?_;obtain⟨a,e,⟨xs,hq⟩,q⟩:=f;subst e;cases d;obtain⟨i,j,p,r⟩:=I1.list hq;refine wpAny_pyIter_list p.isList ?_;refine⟨c⁻¹,[c⁻¹],_,_,H1,rfl,I1.kept (t':=c.toks) fun b o e=>Ad _ e,D9 a _,⟨_,Ax _ rfl,rfl,rfl⟩,fun b hb=>?_,q⟩;have e:b=c⁻¹:=by simpa using hb
 subst e;exact I1.fpOk (Ag _) (I1.hok.fresh (Ag _))
def jJ{l:Expr}{tl:TE}(i:PE X l tl):PI X tg l (sQ X.K tl):=by
 intro aa s σ H R I h;refine aR (i aa s σ H _ I h) fun v c ⟨x,H1,I1,d,f⟩=>?_;obtain⟨a,e,⟨xs,hq⟩,q⟩:=f;subst e;cases d;obtain⟨g,j,p,r⟩:=I1.tuple hq;refine wpAny_pyIter_tuple (show c.heap.IsTuple a g.toArray from p) ?_;refine⟨c⁻¹,[c⁻¹],_,_,H1,rfl,I1.kept (t':=c.toks) fun b o e=>Ad _ e,D_ a _,⟨_,Ax _ rfl,rfl,rfl⟩,fun b hb=>?_,q⟩;have e:b=c⁻¹:=by simpa using hb
 subst e;exact I1.fpOk (Ag _) (I1.hok.fresh (Ag _))
def Ec{aa:Ψ}{σ:St}{H:Hp}{s:Shared}{R:It->Hp->Prop}{E:Ω}{lo hi:Int}{t u v:Tok}{tk:Nat}(I:Inv X aa σ H s)(h1:-(2 ^ 62)<=lo)(h2:lo<2 ^ 62)(a:-(2 ^ 62)<=hi)(h4:hi<2 ^ 62)(q:R (jG lo (hi-lo).toNat) H):wpAny (model X.prog X.w) X.A (pyIter (.ref s⁻¹)) (sN X aa σ tg R) E {s with heap:=s.heap.push {cls:=.type "range",data:=.fields #[.int lo t,.int hi u,.int 1 v]},toks:=tk}:=by
 refine wpAny_pyIter_range (IsRange.new ..) (small_one h1 h2 a h4) ?_;have I1:Inv X aa σ H {s with heap:=s.heap.push {cls:=.type "range",data:=.fields #[.int lo t,.int hi u,.int 1 v]},toks:=tk}:=I.kept fun b o e=>Ad _ e;refine⟨(s.heap.push {cls:=.type "range",data:=.fields #[.int lo t,.int hi u,.int 1 v]}).objs.size,[(s.heap.push {cls:=.type "range",data:=.fields #[.int lo t,.int hi u,.int 1 v]}).objs.size],_,_,H,rfl,
  I1.kept (t':=tk) fun b o e=>Ad _ e,Ea _ lo (hi-lo).toNat,?_,fun b hb=>?_,q⟩
 ·have e1:lo+((0:Nat):Int)*1=lo:=by simp
  have e2:(((hi-lo).toNat:Nat):Int)-((0:Nat):Int)=Builtin.Range.rangeSize lo hi 1:=by rw[rangeSize_one];split<;>omega
  show IsRangeIter _ _ (lo+((0:Nat):Int)*1) ((((hi-lo).toNat:Nat):Int)-((0:Nat):Int)) 1;rw[e1,e2];exact Ax _ rfl
 ·have e:b=(s.heap.push {cls:=.type "range",data:=.fields #[.int lo t,.int hi u,.int 1 v]}).objs.size:=by simpa using hb
  subst e;exact I1.fpOk (Ag _) (I1.hok.fresh (Ag _))
def Ed(ta:TA):TI:=fun σ H R=>ta σ H fun vs H1=>∃j:Int,vs=[.int j]/\-(2 ^ 62)<=j/\j<2 ^ 62/\R (jG 0 j.toNat) H1
def sT{a:Expr}{ta:TA}{p pos:Pos}(f:Gl X "range")(hm:X.mg "range"=none)(g:PA X [a] ta)(hs:starEach [a] X.env=[(false,eval a X.env)]:=by rfl):PI X tg (.Call (.Name "range" p) [a] [] pos) (Ed ta):=by
 intro aa s σ H R I h;refine Call_ (jD I f hm boot_range (PyProof.Rows.callWith_type1 (aR (g pos aa s σ H _ I h) fun us l ⟨vs,H1,i,c,b⟩=>?_) hs rfl));obtain⟨j,e,b,d,q⟩:=b;subst e;cases c with
 |cons r rr=>
  cases rr;obtain⟨t,rfl⟩:=r;exact call_range_1 (Ec i ω ω b d (by simpa using q))
def sV(wi:TI)(g:TG)(tb:TS):TS:=fun D σ H=>wi σ H fun J H1=>∃W:Nat->Nat->St->Hp->Prop,(∃m,W 0 m σ H1)/\∀i m σ H,W i m σ H->
 (J.stop i H/\D.nx σ H)\/(J.go i H/\∃N:St->Hp->Prop,(∀a H',N a H'->∃b,b<m/\W (i+1) b a H')/\∀x H',J.yld i H x H'->g x σ H' fun c H2=>tb {D with nx:=N,ct:=N,bk:=D.nx} c H2)
def jN(fp:List Addr)(h:Heap):Ψ:=fp.filterMap fun b=>(h.get? b).map fun o=>(b,o)
def jO{fp:List Addr}{h:Heap}{b:Addr}{o:Obj}(hb:b∈fp)(e:h.get? b=some o):(b,o)∈jN fp h:=List.mem_filterMap.mpr ⟨b,hb,by rw[e];rfl⟩
def Ee{fp:List Addr}{h:Heap}{p:Addr×Obj}(hp:p∈jN fp h):p.1∈fp/\h.get? p.1=some p.2:=by
 obtain⟨b,hb,e⟩:=List.mem_filterMap.mp hp;cases q:h.get? b with
 |none=>rw[q] at e;cases e
 |some o=>
  rw[q] at e;have a:(b,o)=p:=Ai e;subst a;exact⟨hb,q⟩
def Inv.pinned{aa:Ψ}{σ:St}{H:Hp}{s:Shared}{fp:List Addr}(I:Inv X aa σ H s)(hf:∀b∈fp,bF X aa H b)(c:∀b∈fp,∃o,s.heap.get? b=some o/\∀v,o.data≠.cell v):Inv X (aa++jN fp s.heap) σ H s:=
 I.pins_of fun p hp=>(List.mem_append.mp hp).elim (fun z=>I.pin p (AI _ z)) fun z=>by
  obtain⟨hb,e⟩:=Ee z;obtain⟨f0,f1,f2,_⟩:=hf p.1 hb;obtain⟨o,a,d⟩:=c p.1 hb;rw[e] at a;cases a;exact⟨e,f0,f1,f2,d⟩
def Inv.unpinned{aa a:Ψ}{σ:St}{H:Hp}{s:Shared}(I:Inv X (aa++a) σ H s):Inv X aa σ H s:=I.pins_of fun p hp=>I.pin p (AI _ (List.mem_append_left _ hp))
def eu{iter:Expr}{body:List Stmt}{wi:TI}{g:TG}{tb:TS}{pos:Pos}(hp:PassesOwn (model X.prog X.w) X.A X.env X.xe)(hc:X.calm=true)(hi:PI X tg iter wi)(hg:PG X tg g)(hb:PSs X body tb)(hs:∀x,foldedSetIterable iter X.env x=pure x:=by intro _;rfl):PS X (.For tg iter body [] pos) (sV wi g tb):=by
 intro aa s σ H D I h;refine wpAny_For (aR (hi aa s σ H _ I h) fun v s1 h1=>aR h1 fun kf s2 h2=>?_) hs;obtain⟨it,fp,M,J,H2,e,I2,T,c7,f2,W,⟨m0,w0⟩,turn⟩:=h2;subst e;have c:∀{H':Hp},(∀b∈fp,H' b=none)->∀b∈fp,bF X aa H' b:=fun Y b hb=>⟨Y b hb,(f2 b hb).2⟩;refine codeAny_forLoop_any (fun n s'=>∃i y H',Inv X aa y H' s'/\M i s'.heap/\(∀b∈fp,H' b=none)/\W i n y H') ?_ m0 ⟨0,σ,H2,I2,c7,fun b hb=>(f2 b hb).1,w0⟩;rintro n O ⟨i,z,C,U,P,Q,w3⟩;rcases turn i n z C w3 with ⟨stop,qn⟩|⟨go,N,hN,step⟩
 ·refine wpAny_passesOwn hp (aR (T.done X rfl rfl rfl hc i aa O z C X.xe U (c Q) P stop) fun r Z ⟨hr,I4⟩=>?_)
  subst hr;exact wpAny_execs_nil ⟨z,C,I4,qn⟩
 ·refine wpAny_passesOwn hp (aR (T.item X rfl rfl rfl hc i aa O z C X.xe U (c Q) P go) fun r Z ⟨u,hr,h4⟩=>?_)
  subst hr;refine wpAny_passesOwn hp (aR h4 fun _ L ⟨x,S,I5,r5,y5,p,E⟩=>?_);have G:=I5.pinned (c E) (T.obj _ _ p);refine wpAny_passesOwn hp (aR (hg _ L z S x u _ G r5 (step x S y5)) fun _ s6 ⟨eZ,H6,I6,q6⟩=>?_);refine wpAny_passesOwn hp (aR (hb _ s6 eZ H6 _ I6 q6) fun f F l=>?_);have again:∀{a:St}{j:Hp},Inv X (aa++jN fp L.heap) a j F->N a j->∃m,m<n/\∃i y H',Inv X aa y H' F/\M i F.heap/\(∀b∈fp,H' b=none)/\W i m y H':=fun{a j} I7 q=>by
   obtain⟨m',hm,w7⟩:=hN a j q;refine⟨m',hm,i+1,a,j,I7.unpinned,T.keep _ _ _ p fun b hb o e=>(I7.pin (b,o) (AI _ (AI _ (jO hb e)))).1,fun b hb=>?_,w7⟩;obtain⟨o,e,d⟩:=T.obj _ _ p b hb;exact(I7.pin (b,o) (AI _ (AI _ (jO hb e)))).2.1
  cases f with
  |next=>obtain⟨a,j,I7,q⟩:=l;exact again I7 q
  |cont=>obtain⟨a,j,I7,q⟩:=l;exact again I7 q
  |brk=>obtain⟨a,j,I7,l⟩:=l;exact⟨a,j,I7.unpinned,l⟩
  |ret v=>obtain⟨x7,a,j,I7,r7,l⟩:=l;exact⟨x7,a,j,I7.unpinned,r7,l⟩
end
def gQ{K:Ae}{a:Addr}{xs:List V}{g:TG}{tb:TS}{D:Ends}{σ:St}{H:Hp}(b:Nat->St->Hp->Prop)(l:b 0 σ H)(o:∀i σ H,i<=xs.length->b i σ H->SqL K H a xs)(hs:∀i x σ H,xs[i]?=some x->b i σ H->g x σ H fun d H2=>tb {D with nx:=b (i+1),ct:=b (i+1),bk:=D.nx} d H2)(hd:∀σ H,b xs.length σ H->D.nx σ H):∃W:Nat->Nat->St->Hp->Prop,(∃m,W 0 m σ H)/\∀i m σ H,W i m σ H->
   ((et K a).stop i H/\D.nx σ H)\/((et K a).go i H/\∃N:St->Hp->Prop,(∀f H',N f H'->∃h,h<m/\W (i+1) h f H')/\∀x H',(et K a).yld i H x H'->g x σ H' fun d H2=>tb {D with nx:=N,ct:=N,bk:=D.nx} d H2):=by
 refine⟨fun i m σ H=>m=xs.length-i/\i<=xs.length/\b i σ H,⟨xs.length,by simp,AT _,l⟩,?_⟩;rintro i m σ H ⟨rfl,hi,p⟩;have q:=o i σ H hi p
 by_cases c:i<xs.length
 ·refine .inr ⟨⟨xs,xs[i],q,by simp[c]⟩,b (i+1),fun f H' j=>⟨xs.length-(i+1),ω,rfl,c,j⟩,fun x H' y=>?_⟩
  obtain⟨e,y⟩:=y;subst e;exact hs i x σ _ (y xs q) p
 ·have e:i=xs.length:=ω
  subst e;exact .inl ⟨⟨xs,q,Ag _⟩,hd σ H p⟩
def xU{K:Ae}{a:Addr}{xs:List V}{g:TG}{tb:TS}{D:Ends}{σ:St}{H:Hp}(b:Nat->St->Hp->Prop)(l:b 0 σ H)(o:∀i σ H,i<=xs.length->b i σ H->SqT K H a xs)(hs:∀i x σ H,xs[i]?=some x->b i σ H->g x σ H fun d H2=>tb {D with nx:=b (i+1),ct:=b (i+1),bk:=D.nx} d H2)(hd:∀σ H,b xs.length σ H->D.nx σ H):∃W:Nat->Nat->St->Hp->Prop,(∃m,W 0 m σ H)/\∀i m σ H,W i m σ H->
   ((iF K a).stop i H/\D.nx σ H)\/((iF K a).go i H/\∃N:St->Hp->Prop,(∀f H',N f H'->∃h,h<m/\W (i+1) h f H')/\∀x H',(iF K a).yld i H x H'->g x σ H' fun d H2=>tb {D with nx:=N,ct:=N,bk:=D.nx} d H2):=by
 refine⟨fun i m σ H=>m=xs.length-i/\i<=xs.length/\b i σ H,⟨xs.length,by simp,AT _,l⟩,?_⟩;rintro i m σ H ⟨rfl,hi,p⟩;have q:=o i σ H hi p
 by_cases c:i<xs.length
 ·refine .inr ⟨⟨xs,xs[i],q,by simp[c]⟩,b (i+1),fun f H' j=>⟨xs.length-(i+1),ω,rfl,c,j⟩,fun x H' y=>?_⟩
  obtain⟨e,y⟩:=y;subst e;exact hs i x σ _ (y xs q) p
 ·have e:i=xs.length:=ω
  subst e;exact .inl ⟨⟨xs,q,Ag _⟩,hd σ H p⟩
def s_{lo:Int}{n:Nat}{g:TG}{tb:TS}{D:Ends}{σ:St}{H:Hp}(b:Nat->St->Hp->Prop)(j:b 0 σ H)(hs:∀i σ H,i<n->b i σ H->g (.int (lo+i)) σ H fun c H2=>tb {D with nx:=b (i+1),ct:=b (i+1),bk:=D.nx} c H2)(hd:∀σ H,b n σ H->D.nx σ H):∃W:Nat->Nat->St->Hp->Prop,(∃m,W 0 m σ H)/\∀i m σ H,W i m σ H->
   ((jG lo n).stop i H/\D.nx σ H)\/((jG lo n).go i H/\∃N:St->Hp->Prop,(∀d H',N d H'->∃f,f<m/\W (i+1) f d H')/\∀x H',(jG lo n).yld i H x H'->g x σ H' fun c H2=>tb {D with nx:=N,ct:=N,bk:=D.nx} c H2):=by
 refine⟨fun i m σ H=>m=n-i/\i<=n/\b i σ H,⟨n,by simp,AT _,j⟩,?_⟩;rintro i m σ H ⟨rfl,hi,p⟩
 by_cases a:i<n
 ·refine .inr ⟨a,b (i+1),fun d H' h=>⟨n-(i+1),ω,rfl,a,h⟩,fun x H' y=>?_⟩
  obtain⟨e,y⟩:=y;subst e y;exact hs i σ _ a p
 ·have e:i=n:=ω
  subst e;exact .inl ⟨Ag _,hd σ H p⟩
abbrev R2:=V->V->Hp->VK->Prop
def bT(X:Cx)(f:Value->Value->Sem Value)(r:R2):Prop:=
 ∀(aa:Ψ)(s:Shared)(σ:St)(H:Hp)(x y:V)(v u:Value)(Q:VK),Inv X aa σ H s->RelV x v->RelV y u->r x y H Q->
  wpAny (model X.prog X.w) X.A (f v u) (EP X aa σ Q) X.xe s
def ti(X:Cx)(f:Value->Sem Value)(r:V->Hp->VK->Prop):Prop:=
 ∀(aa:Ψ)(s:Shared)(σ:St)(H:Hp)(x:V)(v:Value)(Q:VK),Inv X aa σ H s->RelV x v->r x H Q->
  wpAny (model X.prog X.w) X.A (f v) (EP X aa σ Q) X.xe s
def cE(X:Cx)(f:Value)(r:List V->Hp->VK->Prop):Prop:=
 ∀(aa:Ψ)(s:Shared)(σ:St)(H:Hp)(xs:List V)(us:List Value)(Q:VK),Inv X aa σ H s->Vals xs us->r xs H Q->
  wpAny (model X.prog X.w) X.A (call f us) (EP X aa σ Q) X.xe s
def dZ(r:R2)(ta tb:TE):TE:=fun σ H Q=>ta σ H fun x H1=>tb σ H1 fun y H2=>r x y H2 Q
def Ef(r:V->Hp->VK->Prop)(ta:TE):TE:=fun σ H Q=>ta σ H fun x H1=>r x H1 Q
def rI(C:Int->Int->Prop)(g:Int->Int->V):R2:=fun x y H Q=>∃i j,x=.int i/\y=.int j/\C i j/\Q (g i j) H
def g_(g:Int->Int->V):R2:=fun x y H Q=>∃i j,x=.int i/\y=.int j/\Q (g i j) H
def rU(g:Int->V):V->Hp->VK->Prop:=fun x H Q=>∃i,x=.int i/\Q (g i) H
section
variable{X:Cx}{a b c:Expr}{ta tb tc:TE}{pos:Pos}
def i8(p:PE X a ta)(hb:PE X b tb){aa:Ψ}{s:Shared}{σ:St}{H:Hp}{R:V->V->Hp->Prop}(I:Inv X aa σ H s)(h:ta σ H fun x H1=>tb σ H1 fun y H2=>R x y H2){Q:Ω}{f:Value->Value->Sem Value}(hf:∀v u c x y H2,Inv X aa σ H2 c->RelV x v->RelV y u->R x y H2->wpAny (model X.prog X.w) X.A (f v u) Q X.xe c):wpAny (model X.prog X.w) X.A (eval a X.env) (fun v d=>wpAny (model X.prog X.w) X.A (eval b X.env) (fun u e=>wpAny (model X.prog X.w) X.A (f v u) Q X.xe e) X.xe d) X.xe s:=by
 refine aR (p aa s σ H _ I h) fun v g ⟨x,H1,q,i,j⟩=>?_;refine aR (hb aa g σ H1 _ q j) fun u c ⟨y,H2,r,l,o⟩=>?_;exact hf v u c x y H2 r i l o
def zq{op:Operator}{r:R2}(f:bT X (binaryOp op) r)(g:PE X a ta)(hb:PE X b tb):PE X (.BinOp a op b pos) (dZ r ta tb):=by
 intro aa s σ H Q I h;exact wpAny_BinOp (i8 g hb I h fun v u c x y H2 i d e q=>f aa c σ H2 x y v u Q i d e q)
def li{op:UnaryOp}{r:V->Hp->VK->Prop}(e:ti X (unaryOp op) r)(f:PE X a ta):PE X (.UnaryOp op a pos) (Ef r ta):=by
 intro aa s σ H Q I h;exact UnaryOp_ (aR (f aa s σ H _ I h) fun v b ⟨x,H1,g,c,d⟩=>e aa b σ H1 x v Q g c d)
def nM{f:Value->Value->Sem Value}{C:Int->Int->Prop}{g:Int->Int->Int}(rule:∀(i j:Int)(t u:Tok)(s:Shared)(Q:Ω)(E:Ω),C i j->Q (.int (g i j) s.toks) {s with toks:=s.toks+1}->wpAny (model X.prog X.w) X.A (f (.int i t) (.int j u)) Q E s):bT X f (rI C fun i j=>.int (g i j)):=by
 intro aa s σ H x y v u Q I a b h;obtain⟨i,j,rfl,rfl,hc,q⟩:=h;obtain⟨t,rfl⟩:=a;obtain⟨t',rfl⟩:=b;exact rule i j t t' s _ _ hc ⟨.int (g i j),H,I.tok _,⟨_,rfl⟩,q⟩
def lj{f:Value->Value->Sem Value}{g:Int->Int->Int}(rule:∀(i j:Int)(t u:Tok)(s:Shared)(Q:Ω)(E:Ω),Q (.int (g i j) s.toks) {s with toks:=s.toks+1}->wpAny (model X.prog X.w) X.A (f (.int i t) (.int j u)) Q E s):bT X f (g_ fun i j=>.int (g i j)):=by
 intro aa s σ H x y v u Q I a b h;obtain⟨i,j,rfl,rfl,q⟩:=h;obtain⟨t,rfl⟩:=a;obtain⟨t',rfl⟩:=b;exact rule i j t t' s _ _ ⟨.int (g i j),H,I.tok _,⟨_,rfl⟩,q⟩
def hF{f:Value->Value->Sem Value}{g:Int->Int->Bool}(rule:∀(i j:Int)(t u:Tok)(s:Shared)(Q:Ω)(E:Ω),Q (.bool (g i j)) s->wpAny (model X.prog X.w) X.A (f (.int i t) (.int j u)) Q E s):bT X f (g_ fun i j=>.bl (g i j)):=by
 intro aa s σ H x y v u Q I a b h;obtain⟨i,j,rfl,rfl,q⟩:=h;obtain⟨t,rfl⟩:=a;obtain⟨t',rfl⟩:=b;exact rule i j t t' s _ _ ⟨.bl (g i j),H,I,rfl,q⟩
def ll(i j:Int):Prop:=0<=j/\j<=1000000/\i.natAbs<2 ^ 64
def CMul(i j:Int):Prop:=(-(2 ^ 64)<i/\i<2 ^ 64)\/(-(2 ^ 64)<j/\j<2 ^ 64)
def CMul.ok{i j:Int}(h:CMul i j):IntMulOk i j:=by
 rcases h with ⟨h1,h2⟩|⟨h1,h2⟩
 ·exact .of_left (intBits_le_64 h1 h2)
 ·exact .of_right (intBits_le_64 h1 h2)
def ey:bT X (binaryOp .Add) (g_ fun i j=>.int (i+j)):=lj fun _ _ _ _ _ _ _ q=>add_int q
def xV:bT X (binaryOp .Sub) (g_ fun i j=>.int (i-j)):=lj fun _ _ _ _ _ _ _ q=>sub_int q
def i9:bT X (binaryOp .Mult) (rI CMul fun i j=>.int (i*j)):=nM fun _ _ _ _ _ _ _ hc q=>mul_int q hc.ok
def i':bT X (binaryOp .Mod) (rI (fun _ j=>0<j) fun i j=>.int (i%j)):=nM fun i j _ _ _ _ _ hc q=>by
 have h1:(0:Int)<j:=hc;exact mod_int' ω (by rw[Int.fmod_eq_emod_of_nonneg i ω];exact q)
def lm:bT X (binaryOp .Pow) (rI ll fun i j=>.int (i ^ j.toNat)):=nM fun _ _ _ _ _ _ _ hc q=>pow_int_small hc.1 hc.2.1 hc.2.2 q
def Eg{f:Value->Sem Value}{g:Int->Int}(rule:∀(i:Int)(t:Tok)(s:Shared)(Q:Ω)(E:Ω),Q (.int (g i) s.toks) {s with toks:=s.toks+1}->wpAny (model X.prog X.w) X.A (f (.int i t)) Q E s):ti X f (rU fun i=>.int (g i)):=by
 intro aa s σ H x v Q I a h;obtain⟨i,rfl,q⟩:=h;obtain⟨t,rfl⟩:=a;exact rule i t s _ _ ⟨.int (g i),H,I.tok _,⟨_,rfl⟩,q⟩
def ln:ti X (unaryOp .USub) (rU fun i=>.int (-i)):=Eg fun _ _ _ _ _ q=>neg_int q
end
def lv:V->V->Bool
 |.non,.non=>true|.non,.int _=>true|.int _,.non=>true|.non,.bl _=>true|.bl _,.non=>true|.non,.str _=>true|.str _,.non=>true
 |.int _,.int _=>true|.bl _,.bl _=>true|.str _,.str _=>true|.byt _,.byt _=>true
 |.int _,.str _=>true|.str _,.int _=>true|.bl _,.str _=>true|.str _,.bl _=>true
 |_,_=>false
def Eh:R2:=fun x y H Q=>lv x y=true/\Q (.bl (decide (x=y))) H
def nN:R2:=fun x y H Q=>lv x y=true/\Q (.bl (!decide (x=y))) H
def xW{i j:Int}:decide (V.int i=V.int j)=(i==j):=by
 rw[Bool.eq_iff_iff];simp
def fV{i j:Bool}:decide (V.bl i=V.bl j)=(i==j):=by
 rw[Bool.eq_iff_iff];simp
def xX{i j:Str}:decide (V.str i=V.str j)=(i==j):=by
 rw[Bool.eq_iff_iff];simp
def xY{i j:Array UInt8}:decide (V.byt i=V.byt j)=(i.toList==j.toList):=by
 rw[Bool.eq_iff_iff];cases i;cases j;simp
section
variable{X:Cx}{a b c:Expr}{ta tb tc:TE}{pos:Pos}
def ax{aa:Ψ}{σ:St}{H:Hp}{s:Shared}{Q:VK}{k a:Bool}(I:Inv X aa σ H s)(q:Q (.bl k) H)(e:k=a):EP X aa σ Q (.bool a) s:=by
 subst e;exact⟨.bl k,H,I,rfl,q⟩
def d_:bT X (compareOp .Eq) Eh:=by
 intro aa s σ H x y v u Q I b a h;obtain⟨hs,q⟩:=h;cases x with
 |non=>
  cases b;cases y with
  |non=>cases a;exact PySem.EqNone.eq_none_none (ax I q (by simp))
  |bl j=>cases a;exact PySem.EqNone.eq_none_bool (ax I q (by simp))
  |int j=>obtain⟨t',rfl⟩:=a;exact PySem.EqNone.eq_none_int (ax I q (by simp))
  |str j=>obtain⟨t',rfl⟩:=a;exact PySem.EqNone.eq_none_str (ax I q (by simp))
  |_=>exact absurd (show false=true from hs) As
 |bl i=>
  cases b;cases y with
  |non=>cases a;exact PySem.EqNone.eq_bool_none (ax I q (by simp))
  |bl j=>cases a;exact eq_bool (ax I q fV)
  |str j=>obtain⟨t',rfl⟩:=a;exact PySem.EqMixed.eq_bool_str (ax I q (by simp))
  |_=>exact absurd (show false=true from hs) As
 |int i=>
  obtain⟨t,rfl⟩:=b;cases y with
  |non=>cases a;exact PySem.EqNone.eq_int_none (ax I q (by simp))
  |int j=>obtain⟨t',rfl⟩:=a;exact eq_int (ax I q xW)
  |str j=>obtain⟨t',rfl⟩:=a;exact PySem.EqMixed.eq_int_str (ax I q (by simp))
  |_=>exact absurd (show false=true from hs) As
 |str i=>
  obtain⟨t,rfl⟩:=b;cases y with
  |non=>cases a;exact PySem.EqNone.eq_str_none (ax I q (by simp))
  |bl j=>cases a;exact PySem.EqMixed.eq_str_bool (ax I q (by simp))
  |int j=>obtain⟨t',rfl⟩:=a;exact PySem.EqMixed.eq_str_int (ax I q (by simp))
  |str j=>obtain⟨t',rfl⟩:=a;exact eq_str (ax I q xX)
  |_=>exact absurd (show false=true from hs) As
 |byt i=>
  obtain⟨t,rfl⟩:=b;cases y with
  |byt j=>obtain⟨t',rfl⟩:=a;exact PySem.W.eq_bytes (ax I q xY)
  |_=>exact absurd (show false=true from hs) As
 |_=>cases y<;>exact absurd (show false=true from hs) As
def ja:bT X (compareOp .NotEq) nN:=by
 intro aa s σ H x y v u Q I b a h;obtain⟨hs,q⟩:=h;cases x with
 |non=>
  cases b;cases y with
  |non=>cases a;exact PySem.EqNone.ne_none_none (ax I q (by simp))
  |bl j=>cases a;exact PySem.EqNone.ne_none_bool (ax I q (by simp))
  |int j=>obtain⟨t',rfl⟩:=a;exact PySem.EqNone.ne_none_int (ax I q (by simp))
  |str j=>obtain⟨t',rfl⟩:=a;exact PySem.EqNone.ne_none_str (ax I q (by simp))
  |_=>exact absurd (show false=true from hs) As
 |bl i=>
  cases b;cases y with
  |non=>cases a;exact PySem.EqNone.ne_bool_none (ax I q (by simp))
  |bl j=>cases a;exact ne_bool (ax I q (congrArg not fV))
  |str j=>obtain⟨t',rfl⟩:=a;exact PySem.EqMixed.ne_bool_str (ax I q (by simp))
  |_=>exact absurd (show false=true from hs) As
 |int i=>
  obtain⟨t,rfl⟩:=b;cases y with
  |non=>cases a;exact PySem.EqNone.ne_int_none (ax I q (by simp))
  |int j=>obtain⟨t',rfl⟩:=a;exact ne_int (ax I q (congrArg not xW))
  |str j=>obtain⟨t',rfl⟩:=a;exact PySem.EqMixed.ne_int_str (ax I q (by simp))
  |_=>exact absurd (show false=true from hs) As
 |str i=>
  obtain⟨t,rfl⟩:=b;cases y with
  |non=>cases a;exact PySem.EqNone.ne_str_none (ax I q (by simp))
  |bl j=>cases a;exact PySem.EqMixed.ne_str_bool (ax I q (by simp))
  |int j=>obtain⟨t',rfl⟩:=a;exact PySem.EqMixed.ne_str_int (ax I q (by simp))
  |str j=>obtain⟨t',rfl⟩:=a;exact ne_str (ax I q (congrArg not xX))
  |_=>exact absurd (show false=true from hs) As
 |byt i=>
  obtain⟨t,rfl⟩:=b;cases y with
  |byt j=>obtain⟨t',rfl⟩:=a;exact PySem.W.ne_bytes (ax I q (congrArg not xY))
  |_=>exact absurd (show false=true from hs) As
 |_=>cases y<;>exact absurd (show false=true from hs) As
def jb:bT X (compareOp .Lt) (g_ fun i j=>.bl (decide (i<j))):=hF fun _ _ _ _ _ _ _ q=>lt_int q
def fW:bT X (compareOp .LtE) (g_ fun i j=>.bl (decide (i<=j))):=hF fun _ _ _ _ _ _ _ q=>le_int q
def iH:bT X (compareOp .Gt) (g_ fun i j=>.bl (decide (j<i))):=hF fun _ _ _ _ _ _ _ q=>gt_int q
def xZ:bT X (compareOp .GtE) (g_ fun i j=>.bl (decide (j<=i))):=hF fun _ _ _ _ _ _ _ q=>ge_int q
def Ei:bT X (compareOp .In) (fun x y H Q=>∃i j,x=.str i/\y=.str j/\Q (.bl (!(Builtin.Str.occurrences j i 0 j.length 1).isEmpty)) H):=by
 intro aa s σ H x y v u Q I a b h;obtain⟨i,j,rfl,rfl,q⟩:=h;obtain⟨t,rfl⟩:=a;obtain⟨t',rfl⟩:=b;exact in_str (ax I q rfl)
def x0:bT X (compareOp .Is) (fun x y H Q=>y=.non/\Q (.bl (decide (x=.non))) H):=by
 intro aa s σ H x y v u Q I a b h;obtain⟨rfl,q⟩:=h;cases b;refine is_none_gen (ax I q ?_);cases x<;>first
  |(cases a;rfl)
  |(obtain⟨t,rfl⟩:=a;rfl)
def x5:bT X (compareOp .NotIn) (fun x y H Q=>∃i j,x=.str i/\y=.str j/\Q (.bl (!(!(Builtin.Str.occurrences j i 0 j.length 1).isEmpty))) H):=by
 intro aa s σ H x y v u Q I a b h;obtain⟨i,j,rfl,rfl,q⟩:=h;obtain⟨t,rfl⟩:=a;obtain⟨t',rfl⟩:=b;exact notIn_str (ax I q rfl)
def au(b:Expr){op:CmpOp}(h:op≠.In:=by decide)(h2:op≠.NotIn:=by decide):behindInMarks op b=false:=by
 have e1:(op==CmpOp.In)=false:=by cases op<;>first|rfl|exact absurd rfl h
 have e2:(op==CmpOp.NotIn)=false:=by cases op<;>first|rfl|exact absurd rfl h2
 cases b<;>simp[behindInMarks,e1,e2]
def hJ{op:CmpOp}{r:R2}(f:bT X (compareOp op) r)(g:PE X a ta)(hb:PE X b tb)(hm:behindInMarks op b=false):PE X (.Compare a [op] [b] pos) (dZ r ta tb):=by
 intro aa s σ H Q I h;exact wpAny_Compare1 (i8 g hb I h fun v u c x y H2 i d e q=>f aa c σ H2 x y v u Q i d e q) hm
def jQ(t:TE):TT:=fun σ H Q=>t σ H fun x H'=>∃k,x=.bl k/\Q k H'
def zl{op:CmpOp}{r:R2}(q:bT X (compareOp op) r)(w:PE X a ta)(hb:PE X b tb)(hm:behindInMarks op b=false):PT X (.Compare a [op] [b] pos) (jQ (dZ r ta tb)):=by
 intro aa s σ H Q I h;refine wpAny_isTrue_Compare1 (aR (w aa s σ H _ I h) fun v d ⟨x,H1,A,f,g⟩=>aR (hb aa d σ H1 _ A g) fun u i ⟨y,H2,C,j,l⟩=>
  aR (q aa i σ H2 x y v u _ C f j l) fun c F ⟨z,D,E,o,k,e,p⟩=>?_) hm
 subst e;cases o;exact wpAny_truthy_bool ⟨D,E,p⟩
def Ej(r c:R2)(ta tb tc:TE):TE:=fun σ H Q=>ta σ H fun x H1=>tb σ H1 fun y H2=>r x y H2 fun z a=>∃k,z=.bl k/\
 (if k=true then tc σ a fun b d=>c y b d Q else Q (.bl false) a)
def nQ{op f:CmpOp}{r j:R2}(T:bT X (compareOp op) r)(U:bT X (compareOp f) j)(W:PE X a ta)(hb:PE X b tb)(hc:PE X c tc)(hm:lastMarks [op,f] [b,c]=false:=by with_unfolding_all rfl):PT X (.Compare a [op,f] [b,c] pos) (jQ (Ej r j ta tb tc)):=by
 intro aa s σ H Q I h;refine isTrue_chain (aR (W aa s σ H _ I h) fun v p ⟨x,H1,Y,q,w⟩=>test_link (aR (hb aa p σ H1 _ Y w) fun u A ⟨y,H2,Z,g,C⟩=>
  aR (T aa A σ H2 x y v u _ Z q g C) fun d D ⟨z,l,o,E,k,e,i⟩=>?_)) hm
 subst e;cases E;refine wpAny_truthy_bool ?_;cases k with
 |false=>
  obtain⟨k',P,S⟩:=i;cases P;exact ite_ff ⟨l,o,S⟩
 |true=>
  refine ite_tt (test_last (aR (hc aa D σ l _ o i) fun F G ⟨J,H4,I4,L,M⟩=>aR (U aa G σ H4 y J u F _ I4 g L M) fun d' s5 ⟨z2,H5,I5,N,k2,e2,O⟩=>?_));subst e2;cases N;exact wpAny_truthy_bool ⟨H5,I5,O⟩
def cw:(sizeLine:Nat)<2 ^ 63:=by rw[sizeLine_eq];decide
def zi:bT X (binaryOp .Add) (fun x y H Q=>∃i j,x=.str i/\y=.str j/\i.length+j.length<=sizeLine/\Q (.str (i++j)) H):=by
 intro aa s σ H x y v u Q I a b h;obtain⟨i,j,rfl,rfl,c,q⟩:=h;obtain⟨t,rfl⟩:=a;obtain⟨t',rfl⟩:=b;exact add_str (fun t' tk=>⟨.str (i++j),H,I.tok _,⟨_,rfl⟩,q⟩) c
def vals1{x:V}{us:List Value}(r:Vals [x] us):∃u,us=[u]/\RelV x u:=by
 cases r with
 |cons r1 r2=>cases r2;exact⟨_,rfl,r1⟩
def vals2{x y:V}{us:List Value}(r:Vals [x,y] us):∃u a,us=[u,a]/\RelV x u/\RelV y a:=by
 cases r with
 |cons r1 r2=>
  cases r2 with
  |cons r3 r4=>cases r4;exact⟨_,_,rfl,r1,r3⟩
def Ek:cE X (.builtin "abs") (fun xs H Q=>∃i,xs=[.int i]/\Q (.int (if i<0 then -i else i)) H):=by
 intro aa s σ H xs us Q I r h;obtain⟨i,rfl,q⟩:=h;obtain⟨u,rfl,t,rfl⟩:=vals1 r;exact call_abs_int fun u tk=>⟨.int (if i<0 then -i else i),H,I.tok _,⟨_,rfl⟩,q⟩
def lw:cE X (.type "str") (fun xs H Q=>∃i,xs=[.int i]/\i.natAbs.log2<1920/\Q (.str (toString i)) H):=by
 intro aa s σ H xs us Q I r h;obtain⟨i,rfl,a,q⟩:=h;obtain⟨u,rfl,t,rfl⟩:=vals1 r;exact PySem.P.str_of_int a ⟨.str _,H,I.tok _,⟨_,rfl⟩,q⟩
end
structure tw(h:Heap)(x dx C:Addr)(mA:Str->Option Value):Prop where
 obj:h.get? x=some (PySem.W.instObj C dx)
 ns:h.Ns1 dx mA
 ne:dx≠x
def RelO.some_of{v:V}{o:Option Value}(r:RelO (some v) o):∃u,o=some u/\RelV v u:=by
 cases o with
 |none=>exact(show False from r).elim
 |some u=>exact⟨u,rfl,r⟩
section
variable{P:Program}{w:World}{H H':Hp}{h h':Heap}{a C dx:Addr}{fs qB:List (Str×V)}
def e'(b:HOk P w H h)(e:H a=some (.ins C dx fs)):∃mA,tw h a dx C mA/\(∀f,RelO (fs.lookup f) (mA f))/\PySem.Within mA (fs.map (·.1))/\fs.length<=1000/\H dx=some (.own a):=by
 obtain⟨d,z,ne,ob,mA,n,r,q⟩:=(show zA P w H h a (.ins C dx fs) from b a _ e);exact⟨mA,⟨ob,n,ne⟩,r,q,z,d⟩
end
structure Cls(K:Ae)(C:Addr):Prop where
 pg:PySem.W.plainGet K C Str.empty=true
 hd:PySem.W.hasDictIn K C=true
 po:PySem.W.plainOver K C=true
 sa:PySem.W.findIn K (.ref C) "__setattr__"=some (some (.builtin "object.__setattr__"))
def Cls.get{K:Ae}{C:Addr}(c:Cls K C)(f:Str):PySem.W.plainGet K C f=true:=c.pg
structure Room(k:Nat)(A:Around):Prop where
 hd:A.handled=none
 dp:A.depth+3*k+5<recursionLimit
 un:A.units+16*k+200<cLine
def Room.mono{j k:Nat}{A:Around}(r:Room k A)(h:j<=k):Room j A:=⟨r.hd,by have:=r.dp;omega,by have:=r.un;omega⟩
def Room.deeper{k:Nat}{A:Around}(r:Room (k+1) A)(env:Env):Room k (A.deeper env):=
 ⟨r.hd,by have:=r.dp;show A.depth+1+3*k+5<_;omega,by have:=r.un;show A.units+3+16*k+200<_;omega⟩
def Room.in1{k:Nat}{A:Around}(r:Room (k+1) A):Room k A.in1:=
 ⟨r.hd,by have:=r.dp;show A.depth+3*k+5<_;omega,by have:=r.un;show A.units+1+16*k+200<_;omega⟩
def Room.depth{k:Nat}{A:Around}(r:Room k A):A.depth<recursionLimit:=by have:=r.dp;omega
def Room.units{k:Nat}{A:Around}(r:Room k A):A.units+64<cLine:=by have:=r.un;omega
def cg:TA:=fun _ H Q=>Q [] H
def cu(ta:TE)(a:TA):TA:=fun σ H Q=>ta σ H fun x H1=>a σ H1 fun xs H2=>Q (x::xs) H2
section
variable{X:Cx}{e:Expr}{es:List Expr}{te:TE}{t:TA}{pos:Pos}
def ao:PA X [] cg:=fun _ _ _ _ H Q I h=>Calls.spliced_nil ⟨[],H,I,.nil,h⟩
def af(g:PE X e te)(hr:PA X es t)(hs:starEach (e::es) X.env=(false,eval e X.env)::starEach es X.env:=by rfl):PA X (e::es) (cu te t):=by
 intro pos aa s σ H Q I h;rw[hs];show wpAny _ _ (spliced ((false,eval e X.env)::backTo pos (starEach es X.env))) _ _ s;refine Calls.spliced_cons (aR (g aa s σ H _ I h) fun u a ⟨x,H1,i,b,c⟩=>?_);exact aR (hr pos aa a σ H1 _ i c) fun us l ⟨xs,H2,j,d,f⟩=>⟨x::xs,H2,j,.cons b d,f⟩
def fb(t:TA):TE:=fun σ H Q=>t σ H fun xs H1=>xs.length<=sizeLine/\∀p,H1 p=none->Q (.ref p) (upd H1 p (.tup xs))
def tz(t:TA):TE:=fun σ H Q=>t σ H fun xs H1=>xs.length<=sizeLine/\∀p,H1 p=none->Q (.ref p) (upd H1 p (.lst xs))
def iI{x1}(h:PA X es t):PE X (.Tuple es x1 pos) (fb t):=by
 intro aa s σ H Q I hq;refine wpAny_Tuple_spliced (aR (h pos aa s σ H _ I hq) fun us a ⟨xs,H1,I1,r,z,q⟩=>⟨by rw[<-r.length];exact z,?_⟩);have hf:H1 a⁻¹=none:=I1.hok.fresh (Ag _);refine⟨.ref a⁻¹,upd H1 a⁻¹ (.tup xs),I1.laid (t':=a.toks) (fun b u e=>Ad _ e) (Ag _) ?_,rfl,q _ hf⟩;exact⟨z,us,r,⟨_,Ax _ rfl,rfl,_,rfl⟩⟩
def zN(h:PA X es t):PE X (.List es pos) (tz t):=by
 intro aa s σ H Q I hq;refine wpAny_List_spliced (aR (h pos aa s σ H _ I hq) fun us a ⟨xs,H1,I1,r,z,q⟩=>⟨by rw[<-r.length];exact z,?_⟩);have hf:H1 a⁻¹=none:=I1.hok.fresh (Ag _);refine⟨.ref a⁻¹,upd H1 a⁻¹ (.lst xs),I1.laid (t':=a.toks) (fun b u e=>Ad _ e) (Ag _) ?_,rfl,q _ hf⟩;exact⟨z,us,0,r,Ax _ rfl⟩
end
abbrev Sp:=List V->Hp->VK->XK->Prop
abbrev ez:=List Env->Hp->Shared->XK->Ω
structure Env0(P:Program)(w:World)(K:Ae)(mg:Str->Option Value)(base:Heap)(A:Around)(outer:List Env)(s:Shared)(H:Hp):Prop where
 frames:A.frames=some outer
 mod:Mod K mg base
 bs:∀b o,base.get? b=some o->s.heap.get? b=some o/\H b=none
 bsz:base.objs.size<=s⁻¹
 funs:s.heap.FunFrames base outer
 frf:∀b∈frs outer,H b=none
 hok:HOk P w H s.heap
 bare:AllBare s.gens
def CE(outer:List Env)(P:Program)(w:World)(H:Hp)(s:Shared)(Q:VK)(u:Value)(s':Shared):Prop:=
 ∃v H',s'.os=s.os/\AllBare s'.gens/\Un (frs outer) [] H H' s.heap s'.heap/\HOk P w H' s'.heap/\RelV v u/\Q v H'
def CR(CX:ez)(outer:List Env)(P:Program)(w:World)(H:Hp)(s:Shared)(Q:VK)(E:XK)(r:Result)(s':Shared):Prop:=
 match r with
 |.ok (.ret u)=>CE outer P w H s Q u s'
 |.ok _=>False
 |.error e=>CX outer H s E e s'
structure FnOk(P:Program)(w:World)(K:Ae)(mg:Str->Option Value)(base:Heap)(CX:ez)(k:Nat)(f:Addr)(fd:FuncData)(ps:List Str)(sp:Sp):Prop where
 len:∀vs H Q E,sp vs H Q E->vs.length=ps.length
 run:∀(A:Around)(outer:List Env)(s:Shared)(H:Hp)(args:Args)(us:List Value)(vs:List V)(Q:VK)(E:XK),Room k A->Env0 P w K mg base A outer s H->BindsTo s fd args (ps.zip us)->Vals vs us->sp vs H Q E->
  codeAny (model P w) A (.call (.ref f) args) (CR CX outer P w H s Q E) s
def Env0.in1{P:Program}{w:World}{K:Ae}{mg:Str->Option Value}{base:Heap}{A:Around}{outer:List Env}{s:Shared}{H:Hp}(e:Env0 P w K mg base A outer s H):Env0 P w K mg base A.in1 outer s H:=⟨e.frames,e.mod,e.bs,e.bsz,e.funs,e.frf,e.hok,e.bare⟩
section
variable{X:Cx}{aa:Ψ}{σ:St}{H:Hp}{s s':Shared}
def Inv.env0(I:Inv X aa σ H s):Env0 X.prog X.w X.K X.mg X.base X.A X.stack s H:=
 ⟨I.ok.frames,I.ok.mod,I.bs,AA I.ok.bsz I.sz,I.stack,I.stkFree,I.hok,I.bare⟩
def Inv.after{Q:VK}{u:Value}(I:Inv X aa σ H s)(h:CE X.stack X.prog X.w H s Q u s'):EP X aa σ Q u s':=by
 obtain⟨v,H',os,a,un,c,r,q⟩:=h;obtain⟨e,g,d,t,f⟩:=s';obtain rfl:f=s.os:=os;exact⟨v,H',I.call (h':=e) (g':=g) (d':=d) (t':=t) (ch:=[]) un c a (fun b z=>absurd z (by simp)),r,q⟩
end
def lA(sp:Sp)(dw:List V)(E:XK)(t:TA):TE:=fun σ H Q=>t σ H fun vs H1=>sp (vs++dw) H1 Q E
def Binds(K:Ae)(fd:FuncData)(ps:List Str)(ds:List Value):Prop:=
 ∀(s:Shared)(us:List Value),K.In s.heap->(us++ds).length=ps.length->BindsTo s fd ⟨us,[]⟩ (ps.zip (us++ds))
def Binds.all{K:Ae}{fd:FuncData}{ps:List Str}(h:∀us:List Value,us.length=ps.length->bindArgs fd ⟨us,[]⟩=pure (ps.zip us)):Binds K fd ps []:=fun s us _ a=>by
 rw[List.append_nil] at a ⊢;exact .of_eq (h us a)
def bW(CX:ez)(X:Cx)(E:XK):Prop:=∀(aa:Ψ)(σ:St)(H:Hp)(s:Shared)(e:Value)(s':Shared),Inv X aa σ H s->CX X.stack H s E e s'->X.xe e s'
section
variable{X:Cx}{CX:ez}{k:Nat}{f C:Addr}{fd:FuncData}{ps:List Str}{sp:Sp}{dw:List V}{ds:List Value}{E:XK}{x m:Str}{p pos aU:Pos}{e o:Expr}{es:List Expr}{ta:TE}{t:TA}
def El{aa:Ψ}{σ:St}{H:Hp}{s:Shared}{Q:VK}{us:List Value}{vs:List V}(F:FnOk X.prog X.w X.K X.mg X.base CX k f fd ps sp)(hr:Room k X.A)(hb:Binds X.K fd ps ds)(hd:Vals dw ds)(hx:bW CX X E)(I:Inv X aa σ H s)(r:Vals vs us)(h:sp (vs++dw) H Q E):wpAny (model X.prog X.w) X.A (call (.ref f) us) (EP X aa σ Q) X.xe s:=by
 have a:Vals (vs++dw) (us++ds):=r.append hd;have b:(us++ds).length=ps.length:=by rw[<-a.length];exact F.len _ _ _ _ h
 refine wpAny_call (codeAny_mono (F.run X.A X.stack s H ⟨us,[]⟩ (us++ds) (vs++dw) Q E hr I.env0 (hb s us I.kIn b) a h) fun r s' hq=>?_);cases r with
 |error e=>exact hx aa σ H s e s' I hq
 |ok fl=>
  cases fl with
  |ret u=>exact I.after hq
  |next=>exact False.elim hq
  |brk=>exact False.elim hq
  |cont=>exact False.elim hq
def zu(F:FnOk X.prog X.w X.K X.mg X.base CX k f fd ps sp)(hr:Room k X.A)(b:Gl X x)(hm:X.mg x=some (.ref f))(hk:PySem.W.keepIn X.K (.ref f)=true)(hb:Binds X.K fd ps ds)(hd:Vals dw ds)(hx:bW CX X E)(c:PA X (e::es) t)(d:(x==("__debug__":Str))=false:=by decide)(he:starEach (e::es) X.env=(false,eval e X.env)::starEach es X.env:=by rfl)(a:(backTo pos (starEach es X.env)).any (·.1)=false:=by rfl):PE X (.Call (.Name x p) (e::es) [] pos) (lA sp dw E t):=by
 intro aa s σ H Q I h;refine wpAny_Call_Name_kw (k8 I b hm ?_ d);refine PySem.W.callWith_K (h₀:=X.base) I.ok.mod.kin hk (aR (c pos aa s σ H _ I h) fun us g ⟨vs,H1,I1,r,q⟩=>⟨I1.kIn,?_⟩) he a;exact El F hr hb hd hx I1 r q
structure Mk(K:Ae)(C f:Addr):Prop where
 makes:PySem.W.makesIn K C=true
 init:PySem.W.findIn K (.ref C) "__init__"=some (some (.ref f))
 fn:PySem.W.isFn K (.ref f)=true
 kp:PySem.W.keepIn K (.ref C)=true
end
structure zo(N P:List Str)(sc:Scope):Prop where
 kind:sc.kind=.function
 co:sc.isCoroutine=false
 gen:sc.isGenerator=false
 nd:N.Nodup
 pre:N.take P.length=P
 par:∀x∈P,sc.names.lookup x=some .local\/sc.names.lookup x=some .cell
 nofree:∀y∈sc.names,y.2≠.free
def x6{kindOf:Str->Option NameKind}{x:Str}:∀{binds:List (Str×Value)}{m:Str->Option Value},(∀v,(x,v)∉binds)->bindL kindOf binds m x=m x
 |[],_,_=>rfl
 |(n,v)::r,m,h=>by
  unfold bindL;rw[x6 fun w hw=>h w (Av _ hw)];split
  ·have:x≠n:=by rintro rfl;exact h v Am
   simp[this]
  ·rfl
def x8{kindOf:Str->Option NameKind}{x:Str}:∀{binds:List (Str×Value)}{m:Str->Option Value},(∀v,(x,v)∉binds)->bindC kindOf binds m x=m x
 |[],_,_=>rfl
 |(n,v)::r,m,h=>by
  unfold bindC;rw[x8 fun w hw=>h w (Av _ hw)];split
  ·rfl
  ·have:x≠n:=by rintro rfl;exact h v Am
   simp[this]
def x9{kindOf:Str->Option NameKind}{x:Str}{v:Value}:∀{P:List Str}{vs:List Value}{i:Nat}{m:Str->Option Value},P.Nodup->P[i]?=some x->vs[i]?=some v->kindOf x=some .local->
  bindL kindOf (P.zip vs) m x=some v
 |[],_,_,_,_,h,_,_=>by simp at h
 |_::_,[],_,_,_,_,h,_=>by simp at h
 |p::P,w::vs,0,m,nd,h1,h2,hk=>by
  simp at h1 h2;subst h1;subst h2;show bindL kindOf ((p,w)::P.zip vs) m p=_;unfold bindL;rw[x6 fun v a=>(List.nodup_cons.mp nd).1 (List.of_mem_zip a).1,if_pos hk];simp
 |p::P,w::vs,i+1,m,nd,h1,h2,hk=>by
  show bindL kindOf ((p,w)::P.zip vs) m x=_;unfold bindL;exact x9 (i:=i) (List.nodup_cons.mp nd).2 (by simpa using h1) (by simpa using h2) hk
def x_{kindOf:Str->Option NameKind}{x:Str}{v:Value}:∀{P:List Str}{vs:List Value}{i:Nat}{m:Str->Option Value},P.Nodup->P[i]?=some x->vs[i]?=some v->kindOf x≠some .local->
  bindC kindOf (P.zip vs) m x=some v
 |[],_,_,_,_,h,_,_=>by simp at h
 |_::_,[],_,_,_,_,h,_=>by simp at h
 |p::P,w::vs,0,m,nd,h1,h2,hk=>by
  simp at h1 h2;subst h1;subst h2;show bindC kindOf ((p,w)::P.zip vs) m p=_;unfold bindC;rw[x8 fun v a=>(List.nodup_cons.mp nd).1 (List.of_mem_zip a).1,if_neg hk];simp
 |p::P,w::vs,i+1,m,nd,h1,h2,hk=>by
  show bindC kindOf ((p,w)::P.zip vs) m x=_;unfold bindC;exact x_ (i:=i) (List.nodup_cons.mp nd).2 (by simpa using h1) (by simpa using h2) hk
def start(N:List Str)(vs:List V):St:=vs.map some++List.replicate (N.length-vs.length) none
def aZ(CX:ez)(P:Program)(w:World)(K:Ae)(mg:Str->Option Value)(base:Heap)(N:List Str)(a:Str)(scope:Scope)(f:Addr)(b:Value)(A:Around)(outer:List Env)(s:Shared)(H:Hp)(E:XK):Cx where
 prog:=P
 w:=w
 K:=K
 mg:=mg
 base:=base
 A:=A.deeper (envOfC a scope s⁻¹ f b)
 N:=N
 s₀:=s
 H₀:=H
 env:=envOfC a scope s⁻¹ f b
 outer:=outer
 stack:=envOfC a scope s⁻¹ f b::outer
 ex:=[]
 calm:=true
 fn:=fun _=>true
 pn:=[]
 xe:=fun e s'=>wpAny (model P w) (A.deeper (envOfC a scope s⁻¹ f b)) (leaving (envOfC a scope s⁻¹ f b) e) (fun _ c=>CX outer H s E e c) (fun d c=>CX outer H s E d c) s'
def ya{a:Scope}{n:Nat}{x:Str}(h:a.names.lookup x=some .cell):∃c,(cellsFrom n a.names []).lookup x=some c:=by
 have q:=PySem.W.cellsFrom_some a.names n [] (.inl h);exact Option.isSome_iff_exists.mp q
def yb{CX:ez}{P:Program}{w:World}{K:Ae}{mg:Str->Option Value}{base:Heap}{N ps:List Str}{j:Str}{scope:Scope}{f:Addr}{l:Value}{A:Around}{outer:List Env}{s C:Shared}{H:Hp}{E:XK}{us:List Value}{vs:List V}(S:zo N ps scope)(hd:A.handled=none)(d:Env0 P w K mg base A outer s H)(J:vs.length=ps.length)(r:Vals vs us)(x:InCallC s s⁻¹ (bindL (envOfC j scope s⁻¹ f l).kindOf (ps.zip us) fun _=>none) (cellsFrom (s⁻¹+1) scope.names []) (bindC (envOfC j scope s⁻¹ f l).kindOf (ps.zip us) fun _=>none) C):Inv (aZ CX P w K mg base N j scope f l A outer s H E) [] (start N vs) H C:=by
 have F:ps.length<=N.length:=by have:=congrArg List.length S.pre;rw[AV] at this;omega
 obtain⟨h1,tk,rfl,hk⟩:=x.done;have o:∀b:Addr,b∉(aZ CX P w K mg base N j scope f l A outer s H E).ex:=fun b z=>absurd (show b∈([]:List Addr) from z) (by simp);refine⟨⟨d.mod,S.kind,rfl,rfl,Ag _,fun y z c h1 h2=>?_,fun y hy=>?_,fun y c _ h=>?_,fun _=>hd,Around.frames_deeper d.frames,.inr ⟨rfl,rfl⟩,fun b z=>absurd z (o b),d.bs,d.bsz,fun b _ _=>o b,fun b z=>absurd z (o b),d.funs,d.frf⟩,
  rfl,d.bare,Un.kept hk,⟨_,x.toInCall.ns,fun i y v h1 h2 I=>?_⟩,fun y c h=>⟨_,x.cell y c h⟩,d.hok.fresh (Ag _),fun y c h=>?_,fun p hp=>absurd (show p∈([]:Ψ) from hp) (by simp),d.hok.kept hk,?_⟩
 ·exact name_of_addr x.apart (PySem.mem_of_lookup h1) (PySem.mem_of_lookup h2)
 ·have hy:scope.names.lookup y=some .cell\/scope.names.lookup y=some .free:=hy
  rcases hy with hy|hy
  ·exact ya hy
  ·exact absurd rfl (S.nofree _ (PySem.mem_of_lookup hy))
 ·exact Nat.le_of_lt (x.above y c (PySem.mem_of_lookup h))
 ·have hi:i<vs.length:=by
   unfold start at h2
   by_cases hi:i<vs.length
   ·exact hi
   ·rw[List.getElem?_append_right (by simpa using hi)] at h2
    rw[List.getElem?_replicate] at h2;split at h2<;>cases h2
  have G:vs[i]?=some v:=by
   unfold start at h2;rw[List.getElem?_append_left (by simpa using hi),Ao] at h2;cases e:vs[i]? with
   |none=>rw[e] at h2;cases h2
   |some a=>rw[e] at h2;cases h2;rfl
  obtain⟨u,hu,D⟩:=r.get G;have hp:ps[i]?=some y:=by
   rw[<-S.pre,List.getElem?_take_of_lt ω];exact h1
  have g:ps.Nodup:=by rw[<-S.pre];exact S.nd.sublist (List.take_sublist _ _)
  refine⟨u,D,?_⟩;rcases S.par y (Ay hp) with k|k
  ·exact .inl ⟨k,x9 g hp hu k⟩
  ·obtain⟨c,e⟩:=ya (n:=s⁻¹+1) k
   refine .inr ⟨.inl k,c,e,?_⟩;have q:=x.cell y c e;rw[x_ g hp hu (by show scope.names.lookup y≠_;rw[k];decide)] at q;exact q
 ·exact d.hok.fresh (Nat.le_of_lt (x.above y c (PySem.mem_of_lookup h)))
 ·unfold start
  show _=N.length;rw[Aq,Ab,List.length_replicate];omega
def yd{CX:ez}{P:Program}{w:World}{K:Ae}{mg:Str->Option Value}{base:Heap}{k:Nat}{f:Addr}{name a:Str}{i:Arguments}{body:List Stmt}{scope:Scope}{j kV l p cdv ct U:Value}{z X:Option Addr}{F:Array (Option Value)}{N ps:List Str}{sp:Sp}(lk:K.lookup f=some ⟨U,X,.func (PySem.W.fnOf name a i body scope j kV l p z cdv ct),F⟩)(G:PySem.W.codeIn K cdv a=true)(S:zo N ps scope)(len:∀vs H Q E,sp vs H Q E->vs.length=ps.length)(Y:∀(A:Around)(outer:List Env)(s:Shared)(H:Hp)(vs:List V)(Q:VK)(E:XK),Room k (A.deeper (envOfC a scope s⁻¹ f cdv))->sp vs H Q E->
   ∃t,PSs (aZ CX P w K mg base N a scope f cdv A outer s H E) body t/\t {nx:=fun _ H'=>Q .non H',rt:=Q} (start N vs) H):
  FnOk P w K mg base CX (k+1) f (PySem.W.fnOf name a i body scope j kV l p z cdv ct) ps sp:=by
 refine⟨len,fun A outer s H args us vs Q E hr c hb r d=>?_⟩;have M:=len _ _ _ _ d;have D:K.In s.heap:=c.mod.kin.keeps fun b o e=>(c.bs b o e).1;have O:s.heap.NoLimit:=c.mod.nolimit.keeps fun b o e=>(c.bs b o e).1;have T:∀y∈ps.zip us,scope.names.lookup y.1=some .local\/(scope.names.lookup y.1=some .cell/\((cellsFrom (s⁻¹+1) scope.names []).lookup y.1).isSome=true):=fun⟨n,v⟩ hy=>by
  rcases S.par n (List.of_mem_zip hy).1 with q|q
  ·exact .inl q
  ·exact .inr ⟨q,PySem.W.cellsFrom_some _ _ _ (.inl q)⟩
 refine codeAny_call_function hr.depth (D _ _ lk) rfl S.co S.gen rfl (PySem.W.codeRec_of D G) (hb _ _ _ _ ?_);refine wpAny_newFunctionEnv_cells S.kind T fun env he C x=>?_;subst he;refine⟨O.keeps x.toInCall.keep,codeAny_func ?_⟩;obtain⟨t,ht,hq⟩:=Y A outer s H vs Q E (hr.deeper _) d;have I:Inv (aZ CX P w K mg base N a scope f cdv A outer s H E) [] (start N vs) H C:=yb S hr.hd c M r x;refine Bd (ht [] C (start N vs) H _ I hq) (fun L s' hs=>?_) fun e s' hs=>hs;have fin:∀{g:St}{H':Hp}{v:V}{u:Value},Inv (aZ CX P w K mg base N a scope f cdv A outer s H E) [] g H' s'->RelV v u->Q v H'->CE outer P w H s Q u s':=
  fun{g H' v u} J h q=>⟨v,H',J.os,J.bare,J.base,J.hok,h,q⟩
 cases L with
 |ret u=>
  obtain⟨v,g,H',J,h,q⟩:=hs;exact fin J h q
 |next=>
  obtain⟨g,H',J,q⟩:=hs;exact fin (v:=V.non) (u:=Value.none) J rfl q
 |brk=>
  obtain⟨_,_,_,q⟩:=hs;exact False.elim q
 |cont=>
  obtain⟨_,_,_,q⟩:=hs;exact False.elim q
section
variable{X:Cx}{x:Str}{p pos:Pos}{e:Expr}{es:List Expr}{t:TA}{id T:String}{r:List V->Hp->VK->Prop}
def jc(r:List V->Hp->VK->Prop)(t:TA):TE:=fun σ H Q=>t σ H fun vs H1=>r vs H1 Q
def zk(hc:cE X (.builtin id) r)(f:Gl X x)(hm:X.mg x=none)(g:A4 x=some (.builtin id))(i:PA X (e::es) t)(j:x≠"__name__":=by decide)(l:(x==("__debug__":Str))=false:=by decide)
  (he:starEach (e::es) X.env=(false,eval e X.env)::starEach es X.env:=by rfl) (a:(backTo pos (starEach es X.env)).any (·.1)=false:=by rfl):PE X (.Call (.Name x p) (e::es) [] pos) (jc r t):=by
 intro aa s σ H Q I h;refine wpAny_Call_Name_kw (jD I f hm g ?_ j l);exact PyProof.Rows.callWith_builtin1 (aR (i pos aa s σ H _ I h) fun us b ⟨vs,H1,o,c,d⟩=>hc aa b σ H1 vs us Q o c d) he a
def zt(hc:cE X (.type T) r)(f:Gl X x)(hm:X.mg x=none)(g:A4 x=some (.type T))(i:PA X (e::es) t)(j:x≠"__name__":=by decide)(l:(x==("__debug__":Str))=false:=by decide)
  (he:starEach (e::es) X.env=(false,eval e X.env)::starEach es X.env:=by rfl) (a:(backTo pos (starEach es X.env)).any (·.1)=false:=by rfl):PE X (.Call (.Name x p) (e::es) [] pos) (jc r t):=by
 intro aa s σ H Q I h;refine wpAny_Call_Name_kw (jD I f hm g ?_ j l);exact PyProof.Rows.callWith_type1 (aR (i pos aa s σ H _ I h) fun us b ⟨vs,H1,o,c,d⟩=>hc aa b σ H1 vs us Q o c d) he a
end
end L2
namespace HT
open PySem PyProof.Rows
def lexLt:List Int->List Int->Bool
 |[],[]=>false
 |[],_::_=>true
 |_::_,[]=>false
 |x::xs,y::ys=>if x=y then lexLt xs ys else decide (x<y)
def zJ(x y:Int)(xs ys:List Int):lexLt (x::xs) (y::ys)=if x=y then lexLt xs ys else decide (x<y):=rfl
def ye:lexLt [] []=false:=rfl
def zX(y:Int)(ys:List Int):lexLt [] (y::ys)=true:=rfl
def yf(x:Int)(xs:List Int):lexLt (x::xs) []=false:=rfl
def Em(A:Around)(s:Shared)(a:Int)(t:Tok)(c:Int)(u:Tok):∃e,SeqAt.EqAt A s (.int a t) (.int c u) e/\(e=true↔a=c):=
 ⟨(a==c),SeqAt.EqAt.int_int a t c u,by simp⟩
def En(A:Around)(s:Shared)(a:Int)(t:Tok)(c:Int)(u:Tok)(prog:Program)(w:World)(E:Ω)(Q:Ω)(h:Q (.bool (decide (a<c))) s):wpAny (model prog w) A (richCompare .Lt (.int a t) (.int c u)) Q E s:=
 (PyProof.Rows.lt_int h:wpAny (model prog w) A (compareOp .Lt (.int a t) (.int c u)) Q E s)
section
open PySem.SeqAt
open PySem.AutoSeq1 (wpAny_loadPart')
open PySem.MeetsSeq PySem.MeetsSeq2 PySem.MeetsSeq3
def Eo(l b:Addr)(r v:Array Value)(n n2:Nat)(dd J:Option Addr)(L M:Array (Option Value))(ns C:List Int)(hi:IntsAre r.toList ns)(G:IntsAre v.toList C):Meets (Builtin.«tuple.__lt__» ⟨[.ref l,.ref b],[]⟩)
   (fun _ R s=>s.heap.get? l=some {cls:=.type "tuple",dict:=dd,data:=.seq r n,slots:=L}/\s.heap.get? b=some {cls:=.type "tuple",dict:=J,data:=.seq v n2,slots:=M}/\
    R (.ok (.ret (.bool (lexLt ns C)))) s):=
 .of_wp fun prog w A R s h=>by
  obtain⟨hp,g,d,tk,os⟩:=s;obtain⟨H,hb,h⟩:=h;have f2:=AutoSeq1.sub_tuple_tuple;have P:r.size=ns.length:=by rw[<-hi.length];simp
  have z2:v.size=C.length:=by rw[<-G.length];simp
  wp_walk using wpAny_loadPart' H,wpAny_loadPart' hb,wpAny_forIn_list _ (fun rest b s'=>b.1=none/\s'=⟨hp,g,d,tk,os⟩/\∃(vs ws:List Value)(o p:List Int),rest=vs.zip ws/\
   IntsAre vs o/\IntsAre ws p/\o.length+v.size=p.length+r.size/\R (.ok (.ret (.bool (lexLt o p)))) ⟨hp,g,d,tk,os⟩) _
  case turn=>
   rintro⟨y,x⟩ rest b s' ⟨j,rfl,vs,ws,o,p,i,D,z,f,hR⟩;cases D with
   |nil=>rw[List.zip_nil_left] at i;cases i
   |cons a t hvi'=>
    cases z with
    |nil=>rw[List.zip_nil_right] at i;cases i
    |cons c u hwi'=>
     rw[List.zip_cons_cons] at i;injection i with hyx cy
     injection hyx with hy hx
     subst hy hx;rw[zJ] at hR;simp only[Ap] at f;obtain⟨e,he,E⟩:=Em A.in1 ⟨hp,g,d,tk,os⟩ a t c u;refine Aa (he prog w _ _ ?_);cases e with
     |true=>
      rw[if_pos (E.mp rfl)] at hR
      wp_walk
      exact⟨rfl,rfl,_,_,_,_,cy,hvi',hwi',ω,hR⟩
     |false=>
      rw[if_neg (fun q=>absurd (E.mpr q) As)] at hR;have I:=En A.in1 ⟨hp,g,d,tk,os⟩ a t c u prog w
      wp_walk using I
      exact⟨_,rfl,by simpa using hR⟩
  case fin=>
   rintro⟨N,O⟩ s' ⟨j,rfl,vs,ws,o,p,i,D,z,f,hR⟩;simp only at j;subst j;have F:lexLt o p=decide (r.size<v.size):=by
    cases D with
    |nil=>
     cases z with
     |nil=>
      simp only[List.length_nil] at f;rw[ye];exact(decide_eq_false ω).symm
     |cons c u hw=>
      simp only[List.length_nil,Ap] at f;rw[zX];exact(decide_eq_true ω).symm
    |cons a t F=>
     cases z with
     |nil=>
      simp only[List.length_nil,Ap] at f;rw[yf];exact(decide_eq_false ω).symm
     |cons c u hw=>
      rw[List.zip_cons_cons] at i;cases i
   rw[F] at hR
   wp_walk
   exact⟨_,rfl,by simpa[Builtin.Tuple.tupleCompareSizes] using hR⟩
  case h=>
   exact⟨rfl,rfl,r.toList,v.toList,ns,C,rfl,hi,G,ω,h⟩
end
section
variable{prog:Program}{w:World}{A:Around}{E:Ω}{s:Shared}
def Ep{l b:Addr}{c d:Array Value}{ns a:List Int}{Q:Ω}(q:IsTup s.heap l c)(hb:IsTup s.heap b d)(hi:IntsAre c.toList ns)(r:IntsAre d.toList a)(hu:A.units<cLine)(h:Q (.bool (lexLt ns a)) s):wpAny (model prog w) A (compareOp .Lt (.ref l) (.ref b)) Q E s:=by
 obtain⟨⟨cls,dd,data,j⟩,e,hc,n,hd⟩:=id q;obtain⟨⟨u,o,data2,p⟩,f,g,n2,i⟩:=id hb;simp only at hc hd g i;subst hc hd g i;exact richCompare_meets_room (op:=.Lt) ⟨_,e,rfl⟩ ⟨_,f,rfl⟩ PySem.F.slot_tuple_lt PySem.F.entry_tuple_lt (PySem.F.args_tuple_lt_2 _ _) (Eo l b c d n n2 dd o j p ns a hi r)
  ⟨e,f,show Value.bool (lexLt ns a)≠Value.notImplemented/\Q (.bool (lexLt ns a)) s from⟨(fun x=>nomatch x),h⟩⟩ hu
def Er{t b:Addr}{vs ws:List Value}{Q:Ω}(ht:IsTup s.heap t vs.toArray)(hb:IsTup s.heap b ws.toArray)(j:vs≠[])(h1:ws=[]->Q (.ref t) s)(h2:ws≠[]->Q (.ref s⁻¹) {s with heap:=s.heap.push {cls:=.type "tuple",data:=.seq (vs++ws).toArray}})(hsz:vs.length+ws.length<=sizeLine):wpAny (model prog w) A (binaryOp .Add (.ref t) (.ref b)) Q E s:=by
 obtain⟨⟨cls,dd,data,d⟩,a,hc,n,hd⟩:=id ht;obtain⟨⟨l,f,data2,g⟩,c,h,n2,i⟩:=id hb;simp only at hc hd h i;subst hc hd h i;have e:vs.toArray++ws.toArray=(vs++ws).toArray:=by simp
 by_cases hw:ws=[]
 ·exact concat_meets ⟨_,a,rfl⟩ ⟨_,c,rfl⟩ noFill_tuple_add seq_tuple_add PySem.F.slot_tuple_add PySem.F.entry_tuple_add (PySem.F.args_tuple_add_2 _ _)
   (tuple_addW1 t b vs.toArray ws.toArray n n2 dd f d g (by simpa using j) (by simp[hw])) ⟨a,c,h1 hw⟩
 ·refine concat_meets ⟨_,a,rfl⟩ ⟨_,c,rfl⟩ noFill_tuple_add seq_tuple_add PySem.F.slot_tuple_add PySem.F.entry_tuple_add (PySem.F.args_tuple_add_2 _ _)
   (tuple_addW2 t b vs.toArray ws.toArray n n2 dd f d g (by simpa using j) (by simpa using hw) (by rw[Aj,Aj];exact hsz)) ⟨a,c,?_⟩
  rw[e];exact h2 hw
def sIx(n d:Nat):Option Int->Nat
 |none=>d
 |some v=>if v<0 then(v+(n:Int)).toNat else min v.toNat n
def yg(n d:Nat):sIx n d none=d:=rfl
def tD(n d k:Nat):sIx n d (some (k:Int))=min k n:=by
 show(if(k:Int)<0 then((k:Int)+(n:Int)).toNat else min (k:Int).toNat n)=min k n;rw[if_neg ω,Int.toNat_natCast]
def Es(n d:Nat)(hd:d<=n)(o:Option Int):sIx n d o<=n:=by
 cases o with
 |none=>exact hd
 |some v=>
  show(if v<0 then(v+(n:Int)).toNat else min v.toNat n)<=n
  by_cases a:v<0
  ·rw[if_pos a];omega
  ·rw[if_neg a];exact Nat.min_le_right _ _
def yh(v:Int)(n d:Nat):(if v<0 then max (v+(n:Int)) 0 else min v (n:Int))=((sIx n d (some v):Nat):Int):=by
 show(if v<0 then max (v+(n:Int)) 0 else min v (n:Int))=(((if v<0 then(v+(n:Int)).toNat else min v.toNat n):Nat):Int)
 by_cases a:v<0
 ·simp only[if_pos a];omega
 ·simp only[if_neg a];omega
def Et(lo hi:Option Int)(n:Nat):Builtin.Slice.sliceAdjust lo hi 1 (n:Int)=(((sIx n 0 lo:Nat):Int),((sIx n n hi:Nat):Int)):=by
 have h1:¬((1:Int)<0):=ω
 unfold Builtin.Slice.sliceAdjust;simp only[h1,if_false];refine Prod.ext ?_ ?_
 ·cases lo with
  |none=>rfl
  |some v=>exact yh v n 0
 ·cases hi with
  |none=>rfl
  |some v=>exact yh v n n
def Eu(i j:Nat):Builtin.Slice.slicePlaces (i:Int) (j:Int) 1=j-i:=by
 unfold Builtin.Slice.slicePlaces;have h1:(1:Int)>0:=ω
 simp only[h1,if_true,Int.ediv_one];split<;>omega
def yi{v:Value}{o:Option Int}{Q:Option Int->Shared->Prop}(p:IsPart v o)(h:Q o s):wpAny (model prog w) A (Builtin.Slice.slicePartIndex v) Q E s:=by
 cases p with
 |none=>exact slicePart_none h
 |int i t=>exact slicePart_int h
def Ev{e:Addr}{c d:Value}{lo hi:Option Int}{n:Nat}{Q:Int×Int×Nat->Shared->Prop}(hs:s.heap.IsSliceOf e c d .none)(g:IsPart c lo)(i:IsPart d hi)(h:Q (((sIx n 0 lo:Nat):Int),1,sIx n n hi-sIx n 0 lo) s):wpAny (model prog w) A (Builtin.Slice.sliceApplied (.ref e) (pure (n:Int))) Q E s:=by
 obtain⟨os,a,f,b⟩:=id hs;unfold Builtin.Slice.sliceApplied Builtin.Slice.sliceFields;refine Aa (Aa (AN a b (x:=c) rfl (Aa (AN a b (x:=d) rfl (Aa (AN a b (x:=.none) rfl (Ac ?_)))))));refine Aa (slicePart_none ?_);show wpAny _ _ (if((1:Int)==0)=true then _ else _) _ _ s;rw[if_neg ξ];refine Aa (yi g (Aa (yi i (Aa (Ac ?_)))));show wpAny _ _ (match Builtin.Slice.sliceAdjust lo hi 1 (n:Int) with|(lo,hi)=>pure (lo,(1:Int),Builtin.Slice.slicePlaces lo hi 1)) _ _ s;rw[Et lo hi n];show wpAny _ _ (pure (((sIx n 0 lo:Nat):Int),(1:Int),Builtin.Slice.slicePlaces ((sIx n 0 lo:Nat):Int) ((sIx n n hi:Nat):Int) 1)) _ _ s;rw[Eu];exact Ac h
def Ew(xs:Array Value)(i k:Nat):((List.range k).filterMap fun(m:Nat)=>xs[((i:Int)+(m:Int)*1).toNat]?).toArray=((xs.toList.drop i).take k).toArray:=by
 have e:(fun(m:Nat)=>xs[((i:Int)+(m:Int)*1).toNat]?)=fun m=>xs[i+m]?:=by
  funext m
  have:((i:Int)+(m:Int)*1).toNat=i+m:=ω
  rw[this]
 rw[e];have:=pick_run xs i k;rw[List.filterMap_map] at this;have e2:((fun x=>xs[x]?) ∘ fun x=>i+x)=fun m=>xs[i+m]?:=rfl;rw[e2] at this;rw[this]
def Ex{t e:Addr}{a:Array Value}{f g:Value}{lo hi:Option Int}{Q:Ω}(ht:IsTup s.heap t a)(hs:s.heap.IsSliceOf e f g .none)(l:IsPart f lo)(o:IsPart g hi)(hw:¬(sIx a.size 0 lo=0/\sIx a.size a.size hi=a.size))(h:Q (.ref s⁻¹) {s with heap:=s.heap.push {cls:=.type "tuple",data:=.seq ((a.toList.drop (sIx a.size 0 lo)).take (sIx a.size a.size hi-sIx a.size 0 lo)).toArray}})(hsz:a.size<=sizeLine):wpAny (model prog w) A (getItem (.ref t) (.ref e)) Q E s:=by
 have b:sizeOk (.seq ((a.toList.drop (sIx a.size 0 lo)).take (sIx a.size a.size hi-sIx a.size 0 lo)).toArray):=by
  show((a.toList.drop (sIx a.size 0 lo)).take (sIx a.size a.size hi-sIx a.size 0 lo)).toArray.size<=sizeLine;rw[Aj,AV,List.length_drop,Au];omega
 have r:sIx a.size a.size hi<=a.size:=Es _ _ (Ag _) hi;obtain⟨os,i,c,p⟩:=id hs;have j:s.TypeIs (.ref e) "slice":=⟨os,i,c⟩;unfold getItem
 try with_reducible refine AU ?_
 first|refine Aa (Ac ?_)|skip
 refine Aa (wpAny_sequenceKey ht.typeIs ξ ?_);refine Aa (wpAny_callSpecial?_slot (name:=Str.ofString "__getitem__") ht.typeIs PyProof.Rows.slot_tuple_getitem
  (A3 PyProof.Rows.slot_tuple_getitem ht.typeIs entry_tuple_getitem ?_ (args_tuple_getitem _ _)))
 show wpAny _ _ (Builtin.Tuple.tupleItemsOf (.ref t) >>= _) _ _ s;refine Aa (tupleItemsOf_ ht ?_);refine Aa (wpAny_typeOf j ?_);rw[if_pos ξ];refine Aa (Ev hs l o ?_);have d:¬((((sIx a.size 0 lo:Nat):Int)==0&&(1:Int)==1&&(sIx a.size a.size hi-sIx a.size 0 lo)==a.size)=true):=by
  intro q;rw[AB,AB] at q;have u:((sIx a.size 0 lo:Nat):Int)=0:=eq_of_beq q.1.1;have v:sIx a.size a.size hi-sIx a.size 0 lo=a.size:=eq_of_beq q.2;exact hw ⟨ω,ω⟩
 show wpAny _ _ (if(((sIx a.size 0 lo:Nat):Int)==0&&(1:Int)==1&&(sIx a.size a.size hi-sIx a.size 0 lo)==a.size)=true then _ else _) _ _ s;rw[if_neg d,Ew]
 first
  |exact Aa (m:=Builtin.Tuple.tupleExact _) (AS (Ac ⟨_,rfl,Ac h⟩) b)
  |exact Aa (m:=Builtin.Tuple.tupleExact _) (AS (Aa (Ac (Ac ⟨_,rfl,Ac h⟩))) b)
  |exact Aa (Aa (m:=Builtin.Tuple.tupleExact _) (AS (Ac (Ac ⟨_,rfl,Ac h⟩)) b))
  |exact Aa (Aa (m:=Builtin.Tuple.tupleExact _) (AS (Ac ⟨_,rfl,Ac h⟩) b))
end
end HT
namespace L2
open PySem PySem.Spec PyProof.Rows
abbrev TO:=St->Hp->(Option Int->Hp->Prop)->Prop
def PO(X:Cx)(e:Option Expr)(t:TO):Prop:=
 ∀(aa:Ψ)(s:Shared)(σ:St)(H:Hp)(Q:Option Int->Hp->Prop),Inv X aa σ H s->t σ H Q->
  wpAny (model X.prog X.w) X.A (evalPart e X.env) (fun u s'=>∃o H',Inv X aa σ H' s'/\IsPart u o/\Q o H') X.xe s
def Ey:TO:=fun _ H Q=>Q none H
def Ez(t:TE):TO:=fun σ H Q=>t σ H fun x H1=>∃i,x=.int i/\Q (some i) H1
def intsAre_of{ns:List Int}:∀{us:List Value},Vals (ns.map V.int) us->IntsAre us ns:=by
 induction ns with
 |nil=>intro us r;rw[List.map_nil] at r;cases r;exact .nil
 |cons n ns ih=>
  intro us r;rw[AE] at r;cases r with
  |cons r1 r2=>
   obtain⟨t,e⟩:=r1;subst e;exact .cons n t (ih r2)
section
variable{X:Cx}{e:Expr}{te:TE}{lo hi:Option Expr}{tl th:TO}{pos p2:Pos}
def fX:PO X none Ey:=by
 intro aa s σ H Q I h;rw[evalPart_none];exact Ac ⟨none,H,I,.none,h⟩
def ge(h:PE X e te):PO X (some e) (Ez te):=by
 intro aa s σ H Q I hw;rw[evalPart_some];refine aR (h aa s σ H _ I hw) fun u d ⟨x,H1,c,a,b⟩=>?_;obtain⟨i,rfl,q⟩:=b;obtain⟨t,rfl⟩:=a;exact⟨some i,H1,c,.int i t,q⟩
def nT(X:Cx)(r:V->Option Int->Option Int->Hp->VK->Prop):Prop:=
 ∀(aa:Ψ)(s:Shared)(σ:St)(H:Hp)(x:V)(v a b:Value)(lo hi:Option Int)(c:Addr)(Q:VK),Inv X aa σ H s->RelV x v->s.heap.IsSliceOf c a b .none->IsPart a lo->IsPart b hi->r x lo hi H Q->
  ∃T id,typeLookup (.type T) "__getitem__"=pure (some (.builtin id))/\s.TypeIs v T/\wpAny (model X.prog X.w) X.A (getItem v (.ref c)) (EP X aa σ Q) X.xe s
def EA(r:V->Option Int->Option Int->Hp->VK->Prop)(te:TE)(tl th:TO):TE:=fun σ H Q=>te σ H fun x H1=>tl σ H1 fun l H2=>th σ H2 fun u a=>r x l u a Q
def z0{r:V->Option Int->Option Int->Hp->VK->Prop}(hr:nT X r)(he:PE X e te)(F:PO X lo tl)(hu:PO X hi th):PE X (.Subscript e (.Slice lo hi none p2) pos) (EA r te tl th):=by
 intro aa s σ H Q I h;refine Subscript_ (aR (he aa s σ H _ I h) fun v g ⟨x,H1,G,i,j⟩=>?_);refine wpAny_Slice (aR (F aa g σ H1 _ G j) fun c o ⟨l,H2,J,p,y⟩=>aR (hu aa o σ H2 _ J y) fun d a ⟨u,f,I3,z,C⟩=>?_);rw[evalPart_none];refine Ac ?_;have L:Inv X aa σ f {a with heap:=a.heap.push {cls:=.type "slice",data:=.fields #[c,d,.none]}}:=I3.kept (t':=a.toks) fun b ob q=>Ad _ q;obtain⟨T,id,D,ht,E⟩:=hr aa {a with heap:=a.heap.push {cls:=.type "slice",data:=.fields #[c,d,.none]}} σ f x v c d l u a⁻¹ Q L i (Heap.IsSliceOf.new ..) p z C;show wpAny (model X.prog X.w) X.A (subscriptTail e (.Slice lo hi none p2) v (.ref a⁻¹)) (EP X aa σ Q) X.xe {a with heap:=a.heap.push {cls:=.type "slice",data:=.fields #[c,d,.none]}};exact tail_any (ops:=[.ref a⁻¹,v]) ht D E (by with_unfolding_all rfl)
def di(xs:List V)(lo hi:Option Int):List V:=(xs.drop (HT.sIx xs.length 0 lo)).take (HT.sIx xs.length xs.length hi-HT.sIx xs.length 0 lo)
def yj(xs:List V)(lo hi:Option Int):(di xs lo hi).length<=xs.length:=by
 unfold di;rw[AV,List.length_drop];omega
def tG(K:Ae):V->Option Int->Option Int->Hp->VK->Prop:=fun x lo hi H Q=>∃a xs,x=.ref a/\SqT K H a xs/\
 ¬(HT.sIx xs.length 0 lo=0/\HT.sIx xs.length xs.length hi=xs.length)/\∀p,H p=none->Q (.ref p) (upd H p (.tup (di xs lo hi)))
def EC:nT X (tG X.K):=by
 intro aa s σ H x v j l lo hi p Q I e hs f g h;obtain⟨a,xs,rfl,hx,hw,q⟩:=h;cases e;obtain⟨i,r,ht,d⟩:=I.tuple hx;have c:i.toArray.size=xs.length:=by rw[Aj];exact r.length.symm
 refine⟨"tuple",_,PyProof.Rows.slot_tuple_getitem.lookup,ht.typeIs,?_⟩;refine HT.Ex ht hs f g (by rw[c];exact hw) ?_ (by rw[c];exact d);rw[c];refine⟨.ref s⁻¹,_,I.laid (t':=s.toks) (o:=.tup (di xs lo hi)) (fun b ob q=>Ad _ q) (Ag _) ?_,rfl,q _ (I.hok.fresh (Ag _))⟩;exact⟨AA (yj xs lo hi) d,_,(r.drop (HT.sIx xs.length 0 lo)).take (HT.sIx xs.length xs.length hi-HT.sIx xs.length 0 lo),IsTup.new _ _⟩
def Vals.nil_iff{xs:List V}{us:List Value}(r:Vals xs us):us=[]↔xs=[]:=by
 cases r with
 |nil=>simp
 |cons _ _=>simp
end
def hU(n:Nat)(i:Int):Option Nat:=if 0<=i then(if i<n then some i.toNat else none) else if -(n:Int)<=i then some (i+n).toNat else none
def ee{a:Type}(xs:List a)(i:Int):Option a:=(hU xs.length i).bind fun j=>xs[j]?
def yk{n:Nat}{i:Int}{j:Nat}(h:hU n i=some j):seqIndex? i n=some j/\j<n/\-(n:Int)<=i/\i<n:=by
 unfold hU at h
 by_cases a:0<=i
 ·rw[if_pos a] at h
  by_cases h1:i<n
  ·rw[if_pos h1] at h
   have e:i.toNat=j:=Ai h;exact⟨by rw[seqIndex_of a h1,e],ω,ω,h1⟩
  ·rw[if_neg h1] at h;cases h
 ·rw[if_neg a] at h
  by_cases h1:-(n:Int)<=i
  ·rw[if_pos h1] at h
   have e:(i+n).toNat=j:=Ai h;exact⟨by rw[seqIndex_neg ω h1,e],ω,h1,ω⟩
  ·rw[if_neg h1] at h;cases h
def tH{a:Type}{xs:List a}{i:Int}{v:a}(h:ee xs i=some v):∃j,seqIndex? i xs.length=some j/\xs[j]?=some v/\j<xs.length/\-(xs.length:Int)<=i/\i<xs.length:=by
 unfold ee at h;cases e:hU xs.length i with
 |none=>rw[e] at h;cases h
 |some j=>
  rw[e] at h;obtain⟨h1,h2,b,h4⟩:=yk e;exact⟨j,h1,h,h2,b,h4⟩
def zC{a:Type}{xs:List a}{j:Nat}{v:a}(h:xs[j]?=some v):ee xs (j:Int)=some v:=by
 have b:j<xs.length:=(List.getElem?_eq_some_iff.mp h).1;have e:hU xs.length (j:Int)=some j:=by
  unfold hU;rw[if_pos ω,if_pos ω];simp
 unfold ee;rw[e];exact h
def ED{a:Type}(xs:List a)(v:a):ee (xs++[v]) (-1)=some v:=by
 have b:(xs++[v]).length=xs.length+1:=by simp
 have e:hU (xs++[v]).length (-1)=some xs.length:=by
  unfold hU;rw[b,if_neg ξ,if_pos ω]
  congr 1
  omega
 unfold ee;rw[e];show(xs++[v])[xs.length]?=some v;simp
def EE(b:Expr):Prop:=∀o i,subscripted b false o i=operate [o,i] (getItem o i)
def nW(X:Cx)(r:R2):Prop:=
 ∀(aJ slice:Expr)(aa:Ψ)(s:Shared)(σ:St)(H:Hp)(x y:V)(v u:Value)(Q:VK),Inv X aa σ H s->RelV x v->RelV y u->r x y H Q->
  subscripted slice false v u=operate [v,u] (getItem v u)->wpAny (model X.prog X.w) X.A (subscriptTail aJ slice v u) (EP X aa σ Q) X.xe s
def jT(X:Cx)(id:String)(r:V->List V->Hp->VK->Prop):Prop:=
 ∀(aa:Ψ)(s:Shared)(σ:St)(H:Hp)(x:V)(xs:List V)(v:Value)(us:List Value)(Q:VK),Inv X aa σ H s->RelV x v->Vals xs us->r x xs H Q->
  wpAny (model X.prog X.w) X.A (call (.builtin id) (v::us)) (EP X aa σ Q) X.xe s
section
variable{X:Cx}{a b:Expr}{ta tb:TE}{pos:Pos}
def cA{r:R2}(hr:nW X r)(f:PE X a ta)(hb:PE X b tb)(hs:EE b):PE X (.Subscript a b pos) (dZ r ta tb):=by
 intro aa s σ H Q I h;exact Subscript_ (i8 f hb I h fun v u c x y H2 g d e q=>hr a b aa c σ H2 x y v u Q g d e q (hs _ _))
def tO(K:Ae):R2:=fun x y H Q=>∃p xs i v,x=.ref p/\y=.int i/\SqL K H p xs/\ee xs i=some v/\Q v H
def jd(K:Ae):R2:=fun x y H Q=>∃p xs i v,x=.ref p/\y=.int i/\SqT K H p xs/\ee xs i=some v/\Q v H
def tQ:R2:=fun x y H Q=>∃z i c,x=.str z/\y=.int i/\z.length<=sizeLine/\ee z.cps.toList i=some c/\Q (.str ⟨#[c]⟩) H
def zM:nW X (tO X.K):=by
 intro aJ slice aa s σ H x y v u Q I e f h hs;obtain⟨p,xs,i,z,rfl,rfl,hq,he,q⟩:=h;cases e;obtain⟨t,rfl⟩:=f;obtain⟨g,r,a,C⟩:=I.list hq;obtain⟨j,h1,h2,D,h4,l⟩:=tH he;obtain⟨w,c,o⟩:=r.get h2;have A:=r.length;have E:=cw;have fin:EP X aa σ Q w s:=⟨z,H,I,o,q⟩
 by_cases d:0<=i
 ·have b:i.toNat=j:=by
   rw[seqIndex_of d l] at h1;exact Ai h1
  exact item_listR a.isList d ω (by rw[b];simpa using c) fin hs
 ·have b:(i+(g.toArray.size:Int)).toNat=j:=by
   rw[seqIndex_neg ω h4] at h1;rw[Aj,<-A];exact Ai h1
  exact subscriptTail_builtinR (x:=w) a.isList.typeIs slot_list_getitem.lookup
   (wpAny_getItem_list_neg (Q:=fun r s'=>r=w/\EP X aa σ Q r s') a.isList ω (by rw[Aj]<;>omega) ω (by rw[b];simpa using c) ⟨rfl,fin⟩) hs
def lB:nW X (jd X.K):=by
 intro aJ slice aa s σ H x y v u Q I b c h hs;obtain⟨p,xs,i,z,rfl,rfl,hq,he,q⟩:=h;cases b;obtain⟨t,rfl⟩:=c;obtain⟨g,r,a,l⟩:=I.tuple hq;obtain⟨j,h1,h2,o,h4,A⟩:=tH he;obtain⟨w,d,e⟩:=r.get h2;have f:=r.length;have C:=cw;have fin:EP X aa σ Q w s:=⟨z,H,I,e,q⟩;exact subscriptTail_builtinR (x:=w) a.typeIs slot_tuple_getitem.lookup
  (getItem_tuple (j:=j) (Q:=fun r s'=>r=w/\EP X aa σ Q r s') a ω ω (by rw[Aj,<-f];exact h1) (by simpa using d) ⟨rfl,fin⟩) hs
def nZ:nW X tQ:=by
 intro aJ slice aa s σ H x y v u Q I a b h hs;obtain⟨z,i,c,rfl,rfl,f,he,q⟩:=h;obtain⟨t,rfl⟩:=a;obtain⟨t',rfl⟩:=b;obtain⟨j,h1,h2,g,h4,d⟩:=tH he;have e:z.cps.toList.length=z.length:=by simp[Str.length]
 rw[e] at h1 h4 d;have l:=cw;exact tail_any (typeIs_str s z t) slot_str_getitem.lookup (getItem_str (c:=c) (by
  have e1:decide (i < -(2 ^ 63:Int))=false:=decide_eq_false ω;have e2:decide (i ≥ 2 ^ 63)=false:=decide_eq_false ω;rw[e1,e2,Bool.or_false]) (by rw[h1];simpa using h2) ⟨.str ⟨#[c]⟩,H,I.tok _,⟨_,rfl⟩,q⟩) hs
def EF(a:List Value)(n j:Nat)(u:Value):AG (·.setIfInBounds j u) {cls:=.type "list",data:=.seq a.toArray n}={cls:=.type "list",data:=.seq (a.set j u).toArray n}:=by
 simp[AG]
def Inv.lst{aa:Ψ}{σ:St}{H:Hp}{s:Shared}{p:Addr}{xs:List V}(I:Inv X aa σ H s)(h:H p=some (.lst xs)):∃(a:List Value)(n:Nat),Vals xs a/\s.heap.get? p=some {cls:=.type "list",data:=.seq a.toArray n}/\xs.length<=sizeLine:=by
 obtain⟨z,a,n,r,e⟩:=I.hok p _ h;exact⟨a,n,r,e,z⟩
def Inv.lstUpd{aa:Ψ}{σ:St}{H:Hp}{s:Shared}{p:Addr}{xs ys:List V}{c its':List Value}{n a:Nat}{f:Obj->Obj}(I:Inv X aa σ H s)(h:H p=some (.lst xs))(d:s.heap.get? p=some {cls:=.type "list",data:=.seq c.toArray n})(hf:f {cls:=.type "list",data:=.seq c.toArray n}={cls:=.type "list",data:=.seq its'.toArray a})(r:Vals ys its')(g:ys.length<=sizeLine)(t:Nat):Inv X aa σ (upd H p (.lst ys)) {s with heap:=s.heap.update p f,toks:=t}:=by
 have e:(s.heap.update p f).get? p=some {cls:=.type "list",data:=.seq its'.toArray a}:=by
  rw[Heap.get?_update_self f d (by rw[hf]<;>rfl),hf]
 refine I.write (x:=p) (e:=p) (by rw[h];trivial) (.inl rfl) (fun b u hb q=>(AL _ _ (Ne.symm hb)).trans q) ⟨_,e⟩ ?_;exact⟨g,its',a,r,e⟩
def EG:V->V->V->Hp->(Hp->Prop)->Prop:=fun o i v H Q=>∃p xs k j,o=.ref p/\i=.int k/\H p=some (.lst xs)/\hU xs.length k=some j/\Q (upd H p (.lst (xs.set j v)))
def set_list:k_ X EG:=by
 intro aa s σ H o i v z A u Q I g l w h;obtain⟨p,xs,k,j,rfl,rfl,hp,x,q⟩:=h;cases g;obtain⟨t,rfl⟩:=l;obtain⟨c,n,r,a,y⟩:=I.lst hp;obtain⟨h1,h2,d,h4⟩:=yk x;have b:=r.length;have C:=cw;have f:Inv X aa σ (upd H p (.lst (xs.set j v))) {s with heap:=s.heap.update p (AG (·.setIfInBounds j u))}:=
  I.lstUpd hp a (EF c n j u) (r.set w j) (by rw[List.length_set];exact y) s.toks
 by_cases e:0<=k
 ·have hk:k.toNat=j:=by
   rw[seqIndex_of e h4] at h1;exact Ai h1
  exact PySem.W.ki_setAt a e ω (by rw[Aj,<-b];exact h4) (by rw[hk];exact⟨_,f,q⟩)
 ·have hk:(k+(c.toArray.size:Int)).toNat=j:=by
   rw[seqIndex_neg ω d] at h1;rw[Aj,<-b];exact Ai h1
  exact PySem.W.ki_setBack a ω (by rw[Aj,<-b];exact d) ω (by rw[hk];exact⟨_,f,q⟩)
def EH(lo hi:Option Int)(n:Nat):(sliceBounds lo hi none n).1=((HT.sIx n 0 lo:Nat):Int)/\(sliceBounds lo hi none n).2.1=((HT.sIx n n hi:Nat):Int)/\(sliceBounds lo hi none n).2.2=1:=by
 refine⟨?_,?_,rfl⟩
 ·cases lo with
  |none=>simp[sliceBounds,HT.sIx]
  |some i=>
   simp only[sliceBounds,HT.sIx,Option.getD_none,show(1:Int)>0 from ξ,if_true]
   by_cases h:i<0
   ·simp only[h,if_true]<;>omega
   ·simp only[h,if_false]<;>omega
 ·cases hi with
  |none=>simp[sliceBounds,HT.sIx]
  |some i=>
   simp only[sliceBounds,HT.sIx,Option.getD_none,show(1:Int)>0 from ξ,if_true]
   by_cases h:i<0
   ·simp only[h,if_true]<;>omega
   ·simp only[h,if_false]<;>omega
def EI(a:List Value)(lo hi:Option Int):slicePick a.toArray lo hi none=((a.drop (HT.sIx a.length 0 lo)).take (HT.sIx a.length a.length hi-HT.sIx a.length 0 lo)).toArray:=by
 obtain⟨h1,h2,b⟩:=EH lo hi a.toArray.size;unfold slicePick;rw[h1,h2,b];simp only[sliceRange_one,pick_run,Aj]<;>rfl
def tV(K:Ae):V->Option Int->Option Int->Hp->VK->Prop:=fun x lo hi H Q=>∃a xs,x=.ref a/\SqL K H a xs/\∀p,H p=none->Q (.ref p) (upd H p (.lst (di xs lo hi)))
def EJ:nT X (tV X.K):=by
 intro aa s σ H x v i j lo hi l Q I d hs e f h;obtain⟨a,xs,rfl,hx,q⟩:=h;cases d;obtain⟨p,r,ht,g⟩:=I.list hx;have c:=r.length;refine⟨"list",_,slot_list_getitem.lookup,ht.isList.typeIs,?_⟩;refine wpAny_getItem_list_slice ht.isList hs e f .none (by simp) ?_ (by rw[Aj]<;>omega);rw[EI,<-c];refine⟨.ref s⁻¹,_,I.laid (t':=s.toks) (o:=.lst (di xs lo hi)) (fun b ob q=>Ad _ q) (Ag _) ?_,rfl,q _ (I.hok.fresh (Ag _))⟩;exact⟨AA (yj xs lo hi) g,_,0,(r.drop (HT.sIx xs.length 0 lo)).take (HT.sIx xs.length xs.length hi-HT.sIx xs.length 0 lo),Ax _ rfl⟩
def eA:V->Bool
 |.non=>true
 |.bl _=>true
 |.int _=>true
 |.str _=>true
 |_=>false
def eC:V->V->Bool
 |.non,.non=>true
 |.bl a,.bl b=>a==b
 |.bl a,.int b=>(if a then 1 else 0)==b
 |.int a,.bl b=>a==(if b then 1 else 0)
 |.int a,.int b=>a==b
 |.str a,.str b=>a==b
 |_,_=>false
def EK{A:Around}{s:Shared}{y x:V}{u v:Value}(d:RelV y u)(c:RelV x v)(e:eA y=true)(fx:eA x=true):SeqAt.EqAt A s u v (eC y x):=by
 cases y with
 |non=>
  cases d;cases x with
  |non=>cases c;exact SeqAt.EqAt.same _
  |bl b=>cases c;exact SeqAt.EqAt.none_bool b
  |int b=>obtain⟨t,rfl⟩:=c;exact SeqAt.EqAt.none_int b t
  |str b=>obtain⟨t,rfl⟩:=c;exact SeqAt.EqAt.none_str b t
  |_=>exact absurd (show false=true from fx) As
 |bl a=>
  cases d;cases x with
  |non=>cases c;exact SeqAt.EqAt.bool_none a
  |bl b=>cases c;exact SeqAt.EqAt.bool_bool a b
  |int b=>obtain⟨t,rfl⟩:=c;exact SeqAt.EqAt.bool_int a b t
  |str b=>obtain⟨t,rfl⟩:=c;exact SeqAt.EqAt.bool_str a b t
  |_=>exact absurd (show false=true from fx) As
 |int a=>
  obtain⟨t',rfl⟩:=d;cases x with
  |non=>cases c;exact SeqAt.EqAt.int_none a t'
  |bl b=>cases c;exact SeqAt.EqAt.int_bool a t' b
  |int b=>obtain⟨t,rfl⟩:=c;exact SeqAt.EqAt.int_int a t' b t
  |str b=>obtain⟨t,rfl⟩:=c;exact SeqAt.EqAt.int_str a t' b t
  |_=>exact absurd (show false=true from fx) As
 |str a=>
  obtain⟨t',rfl⟩:=d;cases x with
  |non=>cases c;exact SeqAt.EqAt.str_none a t'
  |bl b=>cases c;exact SeqAt.EqAt.str_bool a t' b
  |int b=>obtain⟨t,rfl⟩:=c;exact SeqAt.EqAt.str_int a t' b t
  |str b=>obtain⟨t,rfl⟩:=c;exact SeqAt.EqAt.str_str a t' b t
  |_=>exact absurd (show false=true from fx) As
 |_=>exact absurd (show false=true from e) As
def cV(x:V)(u:Value):Bool:=match u with
 |.none=>eC .non x
 |.bool b=>eC (.bl b) x
 |.int i _=>eC (.int i) x
 |.str z _=>eC (.str z) x
 |_=>false
def n3{x y:V}{u:Value}(r:RelV y u)(f:eA y=true):cV x u=eC y x:=by
 cases y with
 |non=>cases r;rfl
 |bl b=>cases r;rfl
 |int i=>obtain⟨t,rfl⟩:=r;rfl
 |str z=>obtain⟨t,rfl⟩:=r;rfl
 |_=>exact absurd (show false=true from f) As
def lF{x:V}:∀{xs:List V}{us:List Value},Vals xs us->xs.all eA=true->us.any (cV x)=xs.any fun y=>eC y x
 |_,_,.nil,_=>rfl
 |y::xs,u::us,.cons r t,f=>by
  rw[List.all_cons,AB] at f;rw[List.any_cons,List.any_cons,n3 r f.1,lF t f.2]
def je{A:Around}{s:Shared}{x:V}{v:Value}(a:RelV x v)(fx:eA x=true):∀{xs:List V}{us:List Value},Vals xs us->xs.all eA=true->∀u∈us,SeqAt.EqAt A s u v (cV x u)
 |_,_,.nil,_=>fun u hu=>by cases hu
 |y::xs,u::us,.cons r t,f=>fun b hu=>by
  rw[List.all_cons,AB] at f;rcases List.mem_cons.mp hu with rfl|hu
  ·rw[n3 r f.1];exact EK r a f.1 fx
  ·exact je a fx t f.2 b hu
def lH(x:V)(xs:List V):Bool:=xs.any fun y=>eC y x
def yl(K:Ae)(a:Bool):R2:=fun x y H Q=>∃p xs,y=.ref p/\(SqL K H p xs\/SqT K H p xs)/\eA x=true/\xs.all eA=true/\Q (.bl (if a then !lH x xs else lH x xs)) H
def EM:bT X (compareOp .In) (yl X.K false):=by
 intro aa s σ H x y v u Q I c d h;obtain⟨p,xs,rfl,hq,fx,fs,q⟩:=h;cases d;rcases hq with hq|hq
 ·obtain⟨a,r,b,e⟩:=I.list hq
  refine SeqAt.in_listAt (cV x) b.isList (fun w hw=>je c fx r fs w (by simpa using hw)) ⟨.bl _,H,I,rfl,?_⟩;rw[show a.toArray.any (cV x)=a.any (cV x) by simp,lF r fs];exact q
 ·obtain⟨a,r,b,e⟩:=I.tuple hq
  refine SeqAt.in_tupleAt (cV x) b (fun w hw=>je c fx r fs w (by simpa using hw)) ⟨.bl _,H,I,rfl,?_⟩;rw[show a.toArray.any (cV x)=a.any (cV x) by simp,lF r fs];exact q
def EN:bT X (compareOp .NotIn) (yl X.K true):=by
 intro aa s σ H x y v u Q I c d h;obtain⟨p,xs,rfl,hq,fx,fs,q⟩:=h;cases d;rcases hq with hq|hq
 ·obtain⟨a,r,b,e⟩:=I.list hq
  refine SeqAt.notIn_listAt (cV x) b.isList (fun w hw=>je c fx r fs w (by simpa using hw)) ⟨.bl _,H,I,rfl,?_⟩;rw[show a.toArray.any (cV x)=a.any (cV x) by simp,lF r fs];exact q
 ·obtain⟨a,r,b,e⟩:=I.tuple hq
  refine SeqAt.notIn_tupleAt (cV x) b (fun w hw=>je c fx r fs w (by simpa using hw)) ⟨.bl _,H,I,rfl,?_⟩;rw[show a.toArray.any (cV x)=a.any (cV x) by simp,lF r fs];exact q
def zn:cE X (.builtin "len") (fun xs H Q=>∃p ys,xs=[.ref p]/\(SqL X.K H p ys\/SqT X.K H p ys)/\Q (.int ys.length) H):=by
 intro aa s σ H xs us Q I r h;obtain⟨p,ys,rfl,hq,q⟩:=h;obtain⟨u,rfl,d⟩:=vals1 r;cases d;have g:=cw;rcases hq with hq|hq
 ·obtain⟨e,b,c,f⟩:=I.list hq
  have a:=b.length;exact Calls.call_len_list c.isList (by simp only[Aj]<;>omega) ⟨.int ys.length,H,I.tok _,⟨s.toks+1,by rw[Aj,a]⟩,q⟩
 ·obtain⟨e,b,c,f⟩:=I.tuple hq
  have a:=b.length;exact len_tuple c (by simp only[Aj]<;>omega) ⟨.int ys.length,H,I.tok _,⟨s.toks+1,by rw[Aj,a]⟩,q⟩
def zY:cE X (.builtin "len") (fun xs H Q=>∃z,xs=[.str z]/\z.length<=sizeLine/\Q (.int z.length) H):=by
 intro aa s σ H xs us Q I r h;obtain⟨z,rfl,a,q⟩:=h;obtain⟨u,rfl,t,rfl⟩:=vals1 r;have b:=cw;exact len_str ω ⟨.int z.length,H,I.tok _,⟨_,rfl⟩,q⟩
def EO:cE X (.type "list") (fun xs H Q=>∃p ys,xs=[.ref p]/\(SqL X.K H p ys\/SqT X.K H p ys)/\∀l,H l=none->Q (.ref l) (upd H l (.lst ys))):=by
 intro aa s σ H xs us Q I r h;obtain⟨p,ys,rfl,hq,q⟩:=h;obtain⟨u,rfl,x⟩:=vals1 r;cases x;have fin:∀(a:List Value),Vals ys a->ys.length<=sizeLine->∀(h':Heap)(d:Nat),(∀b o',s.heap.get? b=some o'->h'.get? b=some o')->
   h'.get? s⁻¹=some {cls:=.type "list",dict:=none,data:=.seq a.toArray d,slots:=#[]}->EP X aa σ Q (.ref s⁻¹) {s with heap:=h'}:=fun a c f h' d g e=>
  ⟨.ref s⁻¹,_,I.laid (t':=s.toks) g (Ag _) (show zA X.prog X.w _ h' _ (.lst ys) from⟨f,a,d,c,e⟩),rfl,q _ (I.hok.fresh (Ag _))⟩
 rcases hq with hq|hq
 ·obtain⟨a,c,j,f⟩:=I.list hq
  have i:=c.length;obtain⟨o,v,hc,n,hd⟩:=j.isList;exact call_list_seq p (.inl rfl) v hc hd (fun h' d g e=>fin a c f h' d g e) (by simp only[Aj]<;>omega)
 ·obtain⟨a,c,j,f⟩:=I.tuple hq
  have i:=c.length;obtain⟨o,v,hc,n,hd⟩:=j;exact call_list_seq p (.inr rfl) v hc hd (fun h' d g e=>fin a c f h' d g e) (by simp only[Aj]<;>omega)
def zZ:cE X (.type "tuple") (fun xs H Q=>∃p ys,xs=[.ref p]/\((SqL X.K H p ys/\∀l,H l=none->Q (.ref l) (upd H l (.tup ys)))\/(SqT X.K H p ys/\Q (.ref p) H))):=by
 intro aa s σ H xs us Q I r h;obtain⟨p,ys,rfl,h⟩:=h;obtain⟨u,rfl,j⟩:=vals1 r;cases j;rcases h with ⟨hq,q⟩|⟨hq,q⟩
 ·obtain⟨a,c,d,f⟩:=I.list hq
  have g:=c.length;refine call_tuple_list d.isList (fun h' i=>?_) (by simp only[Aj]<;>omega);have I1:Inv X aa σ H {s with heap:=h'}:=I.kept (t':=s.toks) i;have v:Inv X aa σ (upd H h'.objs.size (.tup ys)) {s with heap:=h'.push {cls:=.type "tuple",data:=.seq a.toArray}}:=
   I1.laid (t':=s.toks) (fun b o e=>Ad _ e) (Ag _) (show zA X.prog X.w _ _ _ (.tup ys) from⟨f,a,c,IsTup.new _ _⟩)
  exact⟨.ref h'.objs.size,_,v,rfl,q _ (I1.hok.fresh (Ag _))⟩
 ·obtain⟨a,c,d,f⟩:=I.tuple hq
  exact call_tuple_same d ⟨.ref p,H,I,rfl,q⟩
def tY(K:Ae)(T:String)(x:V)(H:Hp):Prop:=match x with
 |.str _=>T="str"
 |.int _=>T="int"
 |.ref p=>(T="list"/\∃xs,SqL K H p xs)\/(T="tuple"/\∃o,K.lookup p=some o/\o.cls=.type "tuple"/\o.dict=none) \/
   (T="dict"/\((∃kvs,H p=some (.dK kvs))\/∃kvs,H p=some (.dT kvs)))\/(T="set"/\∃S n,H p=some (.set S n))
 |_=>False
def ym{aa:Ψ}{σ:St}{H:Hp}{s:Shared}{T:String}{x:V}{v:Value}(I:Inv X aa σ H s)(r:RelV x v)(ty:tY X.K T x H):s.TypeIs v T/\∀a,v=.ref a->∃ob,s.heap.get? a=some ob/\ob.dict=none:=by
 cases x with
 |str z=>
  obtain⟨t,rfl⟩:=r;cases(show T="str" from ty);exact⟨typeIs_str s z t,fun _ e=>nomatch e⟩
 |int i=>
  obtain⟨t,rfl⟩:=r;cases(show T="int" from ty);exact⟨typeIs_int s i t,fun _ e=>nomatch e⟩
 |ref p=>
  cases r;rcases ty with ⟨rfl,xs,hq⟩|⟨rfl,o,hk,hc,hd⟩|⟨rfl,hk⟩|⟨rfl,S,n,hk⟩
  ·obtain⟨d,_,b,_⟩:=I.list hq
   refine⟨b.isList.typeIs,fun a e=>?_⟩;cases e;obtain⟨o,n,e,c,hd,_⟩:=b;exact⟨o,e,hd⟩
  ·refine⟨⟨o,I.kIn p o hk,hc⟩,fun a e=>?_⟩
   cases e;exact⟨o,I.kIn _ o hk,hd⟩
  ·have z:∃o,s.heap.get? p=some o/\o.ExactDict:=by
    rcases hk with ⟨kvs,hk⟩|⟨kvs,hk⟩
    ·obtain⟨_,_,_,_,o,_,_,e,ex,_⟩:=I.hok p _ hk
     exact⟨o,e,ex⟩
    ·obtain⟨_,_,_,_,o,_,_,e,ex,_⟩:=I.hok p _ hk
     exact⟨o,e,ex⟩
   obtain⟨o,e,ex⟩:=z;refine⟨⟨o,e,ex.1⟩,fun a e2=>?_⟩;cases e2;exact⟨o,e,ex.2.1⟩
  ·obtain⟨o,_,_,_,e,ex,_⟩:=I.hok p _ hk
   refine⟨⟨o,e,ex.1⟩,fun a e2=>?_⟩;cases e2;exact⟨o,e,ex.2.1⟩
 |_=>exact False.elim ty
def ud(K:Ae)(T:String)(r:V->List V->Hp->VK->Prop)(to:TE):TE:=fun σ H Q=>to σ H fun x H1=>tY K T x H1/\r x [] H1 Q
def EQ(K:Ae)(T:String)(r:V->List V->Hp->VK->Prop)(to:TE)(t:TA):TE:=fun σ H Q=>to σ H fun x H1=>tY K T x H1/\t σ H1 fun xs H2=>r x xs H2 Q
variable{o e:Expr}{es:List Expr}{to:TE}{t:TA}{name:Str}{aU az:Pos}{T id:String}{r:V->List V->Hp->VK->Prop}
def ER(e:PlainAttrs T)(slot:Slot T name id)(f:typeOf (.builtin id)=pure (.type "method_descriptor"))(hm:jT X id r)(g:PE X o to)(i:attributeBase o name X.env (eval o X.env)=eval o X.env:=by rfl)(j:(aU.endLine==az.line)=true:=by rfl):PE X (.Call (.Attribute o name aU) [] [] az) (ud X.K T r to):=by
 intro aa s σ H Q I h;refine wpAny_Call_method0_late i j (aR (g aa s σ H _ I h) fun v c ⟨x,H1,b,a,ty,d⟩=>?_);obtain⟨h1,h2⟩:=ym b a ty;exact⟨T,id,e,slot,f,h1,h2,Calls.callWith_builtin rfl (PySem.evalArgs_none (hm aa c σ H1 x [] v [] Q b a .nil d))⟩
def zP(p:PlainAttrs T)(slot:Slot T name id)(q:typeOf (.builtin id)=pure (.type "method_descriptor"))(hm:jT X id r)(u:PE X o to)(w:PA X (e::es) t)(y:attributeBase o name X.env (eval o X.env)=eval o X.env:=by rfl)
  (z:((backTo az (starEach (e::es) X.env)).all (fun x=>!x.1)&&(backToKw az (keywordEach [] X.env)).all (fun x=>x.1.isSome)
   && decide ((e::es).length+([]:List Keyword).length+(if([]:List Keyword).isEmpty then 0 else 1)<30))=true:=by rfl)
  (A:(aU.endLine==az.line)=true:=by rfl) (hs:starEach (e::es) X.env=(false,eval e X.env)::starEach es X.env:=by rfl) (C:(backTo az (starEach es X.env)).any (·.1)=false:=by rfl) :
  PE X (.Call (.Attribute o name aU) (e::es) [] az) (EQ X.K T r to t):=by
 intro aa s σ H Q I h;refine wpAny_Call_method_late y z A rfl (aR (u aa s σ H _ I h) fun v f ⟨x,H1,d,b,ty,g⟩=>?_);obtain⟨h1,h2⟩:=ym d b ty;refine⟨T,id,p,slot,q,h1,h2,?_⟩;have c:=w az aa f σ H1 _ d g;rw[hs] at c ⊢;refine Calls.callWith_builtin (by show(false|| (backTo az (starEach es X.env)).any (·.1))=false;rw[C]<;>rfl) (Calls.evalArgs_plain ?_);exact aR c fun us i ⟨vs,H2,D,j,l⟩=>hm aa i σ H2 x vs v us Q D b j l
end
def hX(X:Cx)(id:String)(r:V->List V->Hp->VK->Prop):Prop:=
 ∀(aa:Ψ)(s:Shared)(σ:St)(H:Hp)(x:V)(xs:List V)(v:Value)(us:List Value)(Q:VK),Inv X aa σ H s->RelV x v->Vals xs us->r x xs H Q->
  wpAny (model X.prog X.w) X.A (call (.builtin id) (v::us)) (EP X aa σ Q) X.xe s
def Vals.one{x:V}{us:List Value}(h:Vals [x] us):∃u,us=[u]/\RelV x u:=by
 cases h with|cons r t=>cases t;exact⟨_,rfl,r⟩
def Vals.two{x y:V}{us:List Value}(h:Vals [x,y] us):∃u v,us=[u,v]/\RelV x u/\RelV y v:=by
 cases h with|cons r t=>obtain⟨v,rfl,q⟩:=Vals.one t;exact⟨_,_,rfl,r,q⟩
def Vals.zero:∀{us:List Value},Vals [] us->us=[]
 |_,.nil=>rfl
def Vals.eraseIdx:∀{xs:List V}{us:List Value}(i:Nat),Vals xs us->Vals (xs.eraseIdx i) (us.eraseIdx i)
 |_,_,_,.nil=>.nil
 |_,_,0,.cons _ t=>t
 |_,_,i+1,.cons r t=>.cons r (Vals.eraseIdx i t)
def Vals.reverse{xs:List V}{us:List Value}(h:Vals xs us):Vals xs.reverse us.reverse:=by
 induction h with
 |nil=>exact .nil
 |cons r t ih=>rw[List.reverse_cons,List.reverse_cons];exact Vals.append ih (.cons r .nil)
def yn{a:Type}:∀(l:List a)(i:Nat),(l.eraseIdx i).length<=l.length
 |[],_=>Ag _
 |_::_,0=>Nat.le_succ _
 |_::r,i+1=>Nat.succ_le_succ (yn r i)
section
variable{X:Cx}{aa:Ψ}{σ:St}{H:Hp}{s:Shared}{l b:Addr}{xs ys zs:List V}
def Inv.lset{a its':List Value}{n:Nat}{f:Array Value->Array Value}{t':Nat}(I:Inv X aa σ H s)(b:H l=some (.lst xs))(e:s.heap.get? l=some {cls:=.type "list",data:=.seq a.toArray n})(hf:f a.toArray=its'.toArray)(c:Vals ys its')(d:ys.length<=sizeLine):Inv X aa σ (upd H l (.lst ys)) {s with heap:=s.heap.update l (AG f),toks:=t'}:=by
 have q:=PySem.IsL.update e f;rw[hf] at q;refine I.write (x:=l) (e:=l) (by rw[b];exact trivial) (.inl rfl) (fun g u hb hu=>(AL s.heap (AG f) (Ne.symm hb)).trans hu) ⟨_,q⟩ ?_;exact⟨d,its',_,c,q⟩
def Inv.lnew{a:List Value}{t':Nat}(I:Inv X aa σ H s)(b:Vals ys a)(c:ys.length<=sizeLine):Inv X aa σ (upd H s⁻¹ (.lst ys)) {s with heap:=s.heap.push {cls:=.type "list",data:=.seq a.toArray},toks:=t'}:=
 I.laid (fun _ _ q=>Ad _ q) (Ag _) ⟨c,a,0,b,Ax _ rfl⟩
def Inv.fresh(I:Inv X aa σ H s):H s⁻¹=none:=I.hok.fresh (Ag _)
def Inv.lstM(I:Inv X aa σ H s)(b:H l=some (.lst xs)):xs.length<=sizeLine/\∃(a:List Value)(n:Nat),Vals xs a/\xs.length=a.length/\s.heap.get? l=some {cls:=.type "list",data:=.seq a.toArray n}:=by
 obtain⟨z,a,n,r,e⟩:=I.hok l _ b;exact⟨z,a,n,r,r.length,e⟩
end
section
variable{X:Cx}
def zlo:V->List V->Hp->VK->Prop:=fun x vs H Q=>∃l xs y,x=.ref l/\vs=[y]/\H l=some (.lst xs)/\xs.length<sizeLine/\Q .non (upd H l (.lst (xs++[y])))
def zT:hX X "list.append" zlo:=by
 intro aa s σ H x vs v us Q I c d h;obtain⟨l,xs,y,rfl,rfl,a,g,q⟩:=h;cases c;obtain⟨u,rfl,f⟩:=d.one;obtain⟨z,b,n,r,i,e⟩:=I.lstM a;refine call_meets F.slot_list_append ⟨_,e,rfl⟩ F.entry_list_append (F.args_list_append_2 _ _) (PySem.list_append l b.toArray n u (by rw[Aj];omega)) ⟨e,?_⟩;refine⟨.non,_,I.lset (its':=b++[u]) a e (by simp) (r.append (.cons f .nil)) ?_,rfl,q⟩;rw[Aq,List.length_singleton];omega
def zmH:V->List V->Hp->VK->Prop:=fun x vs H Q=>∃l xs i k y,x=.ref l/\vs=[.int i]/\H l=some (.lst xs)/\-(2 ^ 63)<=i/\i<2 ^ 63/\seqIndex? i xs.length=some k/\xs[k]?=some y/\Q y (upd H l (.lst (xs.eraseIdx k)))
def yo:hX X "list.pop" zmH:=by
 intro aa s σ H x vs v us Q I c d h;obtain⟨l,xs,i,k,y,rfl,rfl,b,h1,h2,hk,hy,q⟩:=h;cases c;obtain⟨u,rfl,f⟩:=d.one;obtain⟨t,rfl⟩:=f;obtain⟨z,a,n,r,g,e⟩:=I.lstM b;obtain⟨w,hw,j⟩:=r.get hy;refine call_meets F.slot_list_pop ⟨_,e,rfl⟩ F.entry_list_pop (F.args_list_pop_2 _ _)
  (MeetsSeq.list_pop_at l a.toArray n i t k w (fitsIndex_both h1 h2) (by rw[Aj,<-g];exact hk) (by rw[<-AM];exact hw) (by rw[Aj];omega)) ⟨e,?_⟩
 refine⟨y,_,I.lset (its':=a.eraseIdx k) b e ?_ (r.eraseIdx k) ?_,j,q⟩
 ·show a.toArray.eraseIdxIfInBounds k=(a.eraseIdx k).toArray
  rw[List.eraseIdxIfInBounds_toArray]
 ·have:=yn xs k
  omega
def ziM:V->List V->Hp->VK->Prop:=fun x vs H Q=>∃l xs,x=.ref l/\vs=[]/\H l=some (.lst xs)/\Q .non (upd H l (.lst xs.reverse))
def ES:hX X "list.reverse" ziM:=by
 intro aa s σ H x vs v us Q I c d h;obtain⟨l,xs,rfl,rfl,a,q⟩:=h;cases c;have f:=d.zero;subst f;obtain⟨z,b,n,r,g,e⟩:=I.lstM a;refine call_meets F.slot_list_reverse ⟨_,e,rfl⟩ F.entry_list_reverse (F.args_list_reverse_1 _) (AutoSeq1.list_reverse_list_0 l b.toArray n (by rw[Aj];omega)) ⟨e,?_⟩;refine⟨.non,_,I.lset (its':=b.reverse) a e (by simp) r.reverse ?_,rfl,q⟩;rw[List.length_reverse];omega
def uh:R2:=fun x y H Q=>∃l b xs zs,x=.ref l/\y=.ref b/\H l=some (.lst xs)/\H b=some (.lst zs)/\xs.length+zs.length<=sizeLine/\∀p,H p=none->Q (.ref p) (upd H p (.lst (xs++zs)))
def gg:bT X (binaryOp .Add) uh:=by
 intro aa s σ H x y v u Q I d f h;obtain⟨l,b,xs,zs,rfl,rfl,g,i,p,q⟩:=h;cases d;cases f;obtain⟨z,a,n,r,w,e⟩:=I.lstM g;obtain⟨z2,c,n2,j,A,e2⟩:=I.lstM i;refine PySem.P.add_list e e2 ?_ (by rw[Aj,Aj];omega);have o:a.toArray++c.toArray=(a++c).toArray:=by simp
 rw[o];exact⟨.ref _,_,I.lnew (t':=s.toks) (r.append j) (by rw[Aq];omega),rfl,q _ I.fresh⟩
end
section
variable{prog:Program}{w:World}{A:Around}{E:Ω}{s:Shared}
set_option maxRecDepth 100000 in
end
section
variable{κ:Type}[DecidableEq κ]
def bJ(kvs:List (κ×V))(k:κ):Option V:=(kvs.find? fun a=>decide (a.1=k)).map (·.2)
def putK(kvs:List (κ×V))(k:κ)(v:V):List (κ×V):=
 if(kvs.any fun a=>decide (a.1=k))=true then kvs.map (fun a=>if a.1=k then(a.1,v) else a) else kvs++[(k,v)]
def KI(kvs:List (κ×V))(k:κ):List (κ×V):=kvs.filter fun a=>decide (a.1≠k)
def um{p:κ×V}{r:List (κ×V)}{k:κ}(e:p.1=k):bJ (p::r) k=some p.2:=by simp[bJ,List.find?_cons,e]
def up{p:κ×V}{r:List (κ×V)}{k:κ}(e:¬p.1=k):bJ (p::r) k=bJ r k:=by simp[bJ,List.find?_cons,e]
def yp(k:κ):∀kvs:List (κ×V),(kvs.any fun a=>decide (a.1=k))=(bJ kvs k).isSome
 |[]=>rfl
 |p::r=>by
  rw[List.any_cons]
  by_cases e:p.1=k
  ·simp only[um e,decide_eq_true e,Bool.true_or,Option.isSome_some]
  ·rw[up e,decide_eq_false e,Bool.false_or];exact yp k r
def yq(kvs:List (κ×V))(k:κ)(v:V):(putK kvs k v).length<=kvs.length+1:=by
 unfold putK;split
 ·rw[Ab];omega
 ·rw[Aq,Ap,List.length_nil];omega
def RelO.isSome_eq{o:Option V}{u:Option Value}(r:RelO o u):o.isSome=u.isSome:=by
 cases o with
 |none=>cases u with
  |none=>rfl
  |some _=>exact(show False from r).elim
 |some _=>cases u with
  |none=>exact(show False from r).elim
  |some _=>rfl
def KV.val{kvs:List (κ×V)}{vs:List (κ×Value)}(r:KV kvs vs)(k:κ):RelO (bJ kvs k) (valueAt vs k):=by
 unfold KV at r
 induction r with
 |nil=>exact True.intro
 |@cons p q ps a h t d=>
  obtain⟨h1,h2⟩:=h
  by_cases e:p.1=k
  ·have c:q.1=k:=h1.symm.trans e
   have b:valueAt (q::a) k=some q.2:=by simp[valueAt,List.find?_cons,c]
   rw[um e,b];exact h2
  ·have c:¬q.1=k:=fun z=>e (h1.trans z)
   have b:valueAt (q::a) k=valueAt a k:=by simp[valueAt,List.find?_cons,c]
   rw[up e,b];exact d
def KV.any{kvs:List (κ×V)}{vs:List (κ×Value)}(r:KV kvs vs)(k:κ):(kvs.any fun a=>decide (a.1=k))=vs.any fun a=>decide (a.1=k):=by
 unfold KV at r
 induction r with
 |nil=>rfl
 |cons h t ih=>rw[List.any_cons,List.any_cons,ih,h.1]
def KV.repl{kvs:List (κ×V)}{vs:List (κ×Value)}(r:KV kvs vs)(k:κ){y:V}{u:Value}(b:RelV y u):KV (kvs.map fun a=>if a.1=k then(a.1,y) else a) (vs.map fun a=>if a.1=k then(a.1,u) else a):=by
 unfold KV at r ⊢
 induction r with
 |nil=>exact .nil
 |@cons p q ps qs h t ih=>
  rw[AE,AE];refine .cons ?_ ih;obtain⟨h1,h2⟩:=h
  by_cases e:p.1=k
  ·rw[if_pos e,if_pos (h1.symm.trans e)];exact⟨h1,b⟩
  ·rw[if_neg e,if_neg (fun z=>e (h1.trans z))];exact⟨h1,h2⟩
def KV.put{kvs:List (κ×V)}{vs:List (κ×Value)}(r:KV kvs vs)(k:κ){y:V}{u:Value}(a:RelV y u):KV (putK kvs k y) (stored vs k u):=by
 unfold putK stored;rw[r.any k]
 by_cases e:(vs.any fun b=>decide (b.1=k))=true
 ·rw[if_pos e,if_pos e];exact r.repl k a
 ·rw[if_neg e,if_neg e];exact Paired.snoc r ⟨rfl,a⟩
def KV.length{kvs:List (κ×V)}{vs:List (κ×Value)}(r:KV kvs vs):kvs.length=vs.length:=Paired.length r
end
def n5{P:Program}{w:World}{k:Key}{u:Value}(r:RelV (kV k) u):(zx P w).is k u=true:=by
 cases k with
 |inl i=>obtain⟨t,e⟩:=(show ∃t,u=Value.int i t from r);subst e;exact rZ P w i t
 |inr x=>obtain⟨t,e⟩:=(show ∃t,u=Value.str x t from r);subst e;exact DM P w x t
def yr{P:Program}{w:World}:∀{ks:List Key}{us:List Value},Vals (ks.map kV) us->ItemsAre (zx P w) ks us
 |[],_,r=>by rw[List.map_nil] at r;cases r;exact .nil
 |k::ks,_,r=>by
  rw[AE] at r;cases r with
  |cons h t=>exact .cons (n5 h) (yr t)
abbrev KT(H:Hp):List (List Key×V)->List (List Key×Addr×Value)->Prop:=Paired fun p q=>p.1=q.1/\H q.2.1=some (.tup (p.1.map kV))/\RelV p.2 q.2.2
def KT.val{H:Hp}{kvs:List (List Key×V)}{xs:List (List Key×Addr×Value)}(r:KT H kvs xs)(k:List Key):RelO (bJ kvs k) ((atKey xs k).map (·.2)):=by
 induction r with
 |nil=>exact True.intro
 |@cons p q ps a h t d=>
  obtain⟨h1,_,h2⟩:=h
  by_cases e:p.1=k
  ·have c:q.1=k:=h1.symm.trans e
   have b:atKey (q::a) k=some q.2:=by simp[atKey,List.find?_cons,c]
   rw[um e,b];exact h2
  ·have c:¬q.1=k:=fun z=>e (h1.trans z)
   have b:atKey (q::a) k=atKey a k:=by simp[atKey,List.find?_cons,c]
   rw[up e,b];exact d
def KT.repl{H:Hp}{kvs:List (List Key×V)}{xs:List (List Key×Addr×Value)}(r:KT H kvs xs)(k:List Key){y:V}{u:Value}(c:RelV y u):KT H (kvs.map fun a=>if a.1=k then(a.1,y) else a) (xs.map (putAt k u)):=by
 induction r with
 |nil=>exact .nil
 |@cons p q ps qs h t ih=>
  rw[AE,AE];refine .cons ?_ ih;obtain⟨h1,h2,b⟩:=h;unfold putAt
  by_cases e:p.1=k
  ·rw[if_pos e,if_pos (h1.symm.trans e)];exact⟨h1,h2,c⟩
  ·rw[if_neg e,if_neg (fun z=>e (h1.trans z))];exact⟨h1,h2,b⟩
def KT.put{H:Hp}{kvs:List (List Key×V)}{xs:List (List Key×Addr×Value)}(r:KT H kvs xs)(k:List Key){b:Addr}{y:V}{u:Value}(hb:H b=some (.tup (k.map kV)))(a:RelV y u):KT H (putK kvs k y) (storedH xs k b u):=by
 have e:(kvs.any fun c=>decide (c.1=k))=(atKey xs k).isSome:=by
  rw[yp,(r.val k).isSome_eq,Option.isSome_map]
 unfold putK storedH;rw[e]
 by_cases q:(atKey xs k).isSome=true
 ·rw[if_pos q,if_pos q];exact r.repl k a
 ·rw[if_neg q,if_neg q];exact Paired.snoc r ⟨rfl,hb,a⟩
def KT.keeps{H H':Hp}{kvs:List (List Key×V)}{xs:List (List Key×Addr×Value)}(r:KT H kvs xs)(ht:∀b ys,H b=some (.tup ys)->H' b=some (.tup ys)):KT H' kvs xs:=
 Paired.mapP r fun _ _ z=>⟨z.1,ht _ _ z.2.1,z.2.2⟩
section
variable{P:Program}{w:World}{H:Hp}{h:Heap}{a:Addr}
def yt{u:HO}(ok:HOk P w H h)(e:Rd H a u):zA P w H h a u:=e.ok ok
def n6{kvs:List (Key×V)}(ok:HOk P w H h)(e:Rd H a (.dK kvs)):kvs.length<=sizeLine/\(a==sysModules)=false/\∃vs,KV kvs vs/\h.DictOf (zx P w) a vs:=
 show zA P w H h a (.dK kvs) from yt ok e
def yu{kvs:List (Key×V)}(ok:HOk P w H h)(e:H a=some (.dK kvs)):kvs.length<=sizeLine/\(a==sysModules)=false/\∃vs,KV kvs vs/\h.DictOf (zx P w) a vs:=n6 ok (.inl e)
def n7{ks:List Key}(ok:HOk P w H h)(e:H a=some (.tup (ks.map kV))):(tupleKind (zx P w)).is h ks a:=by
 obtain⟨_,b,r,o,h1,h2,n,c⟩:=(show zA P w H h a (.tup (ks.map kV)) from ok a _ e);exact⟨o,b.toArray,n,h1,h2,c,by simpa using yr r⟩
def n8{kvs:List (List Key×V)}(ok:HOk P w H h)(e:Rd H a (.dT kvs)):kvs.length<=sizeLine/\(a==sysModules)=false/\
  ∃xs,KT H kvs xs/\h.DictOfH (tupleKind (zx P w)) a xs:=by
 obtain⟨z,y,xs,r,o,es,ep,h1,h2,b,h4,c⟩:=(show zA P w H h a (.dT kvs) from yt ok e);refine⟨z,y,xs,r,o,es,ep,h1,h2,b,h4,fun x hx=>?_,c⟩;have all:∀{l:List (List Key×V)}{m:List (List Key×Addr×Value)},KT H l m->∀x∈m,(tupleKind (zx P w)).is h x.1 x.2.1:=by
  intro l m q
  induction q with
  |nil=>intro x hx;exact nomatch hx
  |@cons p q ps qs hq t ih=>
   intro x hx;rcases List.mem_cons.mp hx with e|hx
   ·subst e
    exact n7 ok (by rw[<-hq.1];exact hq.2.1)
   ·exact ih x hx
 exact all r x hx
def ET{kvs:List (List Key×V)}(ok:HOk P w H h)(e:H a=some (.dT kvs)):kvs.length<=sizeLine/\(a==sysModules)=false/\
  ∃xs,KT H kvs xs/\h.DictOfH (tupleKind (zx P w)) a xs:=n8 ok (.inl e)
end
def DGet(H:Hp)(a:Addr)(y:V)(r:Option V):Prop:=
 (∃kvs k,Rd H a (.dK kvs)/\y=kV k/\r=bJ kvs k)\/∃kvs k b,Rd H a (.dT kvs)/\y=.ref b/\H b=some (.tup (k.map kV))/\r=bJ kvs k
def DPut(H:Hp)(a:Addr)(y v:V)(H':Hp):Prop:=
 (∃kvs k,H a=some (.dK kvs)/\y=kV k/\kvs.length<sizeLine/\H'=upd H a (.dK (putK kvs k v))) \/
 ∃kvs k b,H a=some (.dT kvs)/\y=.ref b/\H b=some (.tup (k.map kV))/\kvs.length<sizeLine/\H'=upd H a (.dT (putK kvs k v))
def DGet.k{H:Hp}{a:Addr}{kvs:List (Key×V)}{k:Key}(e:H a=some (.dK kvs)):DGet H a (kV k) (bJ kvs k):=.inl ⟨kvs,k,.inl e,rfl,rfl⟩
def DGet.t{H:Hp}{a b:Addr}{kvs:List (List Key×V)}{k:List Key}(e:H a=some (.dT kvs))(c:H b=some (.tup (k.map kV))):DGet H a (.ref b) (bJ kvs k):=.inr ⟨kvs,k,b,.inl e,rfl,c,rfl⟩
def DPut.k{H:Hp}{a:Addr}{kvs:List (Key×V)}{k:Key}{v:V}(e:H a=some (.dK kvs))(b:kvs.length<sizeLine):DPut H a (kV k) v (upd H a (.dK (putK kvs k v))):=.inl ⟨kvs,k,e,rfl,b,rfl⟩
def DPut.t{H:Hp}{a b:Addr}{kvs:List (List Key×V)}{k:List Key}{v:V}(e:H a=some (.dT kvs))(c:H b=some (.tup (k.map kV)))(d:kvs.length<sizeLine):DPut H a (.ref b) v (upd H a (.dT (putK kvs k v))):=.inr ⟨kvs,k,b,e,rfl,c,d,rfl⟩
section
variable{X:Cx}{aa:Ψ}{σ:St}{H:Hp}{s:Shared}{a:Addr}{y v:V}{u r:Value}{o:Option V}{A:Around}{E:Ω}
def Inv.big(I:Inv X aa σ H s):sysModules<s⁻¹:=by
 have h:mainGlobals<s⁻¹:=(I.mod.glob.keeps I.bk).lt;exact Nat.lt_trans ξ h
def EU{Q:Ω}(hu:A.units+1<cLine)(I:Inv X aa σ H s)(g:DGet H a y (some v))(j:RelV y u)(h:∀d s',Inv X aa σ H s'->RelV v d->Q d s'):wpAny (model X.prog X.w) A (getItem (.ref a) u) Q E s:=by
 rcases g with ⟨kvs,k,e,f,l⟩|⟨kvs,k,b,e,f,q,l⟩
 ·subst f
  obtain⟨z,hd,vs,c,dd⟩:=n6 I.hok e;obtain⟨d,hw,i⟩:=RelO.some_of (v:=v) (o:=valueAt vs k) (by rw[l];exact c.val k);exact wpAny_getItem_of (n5 j) dd.mapOf hw (h d _ (I.tok _) i)
 ·subst f
  cases(show u=Value.ref b from j);obtain⟨z,hd,xs,c,dd⟩:=n8 I.hok e;obtain⟨d,hw,i⟩:=RelO.some_of (v:=v) (o:=(atKey xs k).map (·.2)) (by rw[l];exact c.val k);obtain⟨p,hp,r⟩:=Option.map_eq_some_iff.mp hw;refine wpAny_getItem_heap (tupleKind_room_in1 hu) (n7 I.hok q) dd hp ?_;rw[r];exact h d _ (I.tok _) i
def uy{Q:Ω}(hu:A.units+1<cLine)(I:Inv X aa σ H s)(g:DGet H a y o)(f:RelV y u)(h:∀s',Inv X aa σ H s'->Q (.bool o.isSome) s'):wpAny (model X.prog X.w) A (compareOp .In u (.ref a)) Q E s:=by
 rcases g with ⟨kvs,k,e,d,l⟩|⟨kvs,k,b,e,d,i,l⟩
 ·subst d
  obtain⟨z,hd,vs,c,dd⟩:=n6 I.hok e;refine wpAny_in_of (n5 f) hd dd.mapOf ?_;rw[<-(c.val k).isSome_eq,<-l];exact h _ (I.tok _)
 ·subst d
  cases(show u=Value.ref b from f);obtain⟨z,hd,xs,c,dd⟩:=n8 I.hok e;refine wpAny_in_heap (tupleKind_room_in1 hu) (n7 I.hok i) hd dd ?_;have q:=(c.val k).isSome_eq;rw[Option.isSome_map] at q;rw[<-q,<-l];exact h _ (I.tok _)
def uH{h':Heap}{t':Nat}{ob:HO}(I:Inv X aa σ H s)(c:k7 (H a))(hs:AR a s.heap h')(he:∃q,h'.get? a=some q)(new:zA X.prog X.w (upd H a ob) h' a ob):Inv X aa σ (upd H a ob) {s with heap:=h',toks:=t'}:=
 I.write (x:=a) (e:=a) c (.inl rfl) (fun b q hb z=>(hs.2 b hb).trans z) he new
def dk_new{P:Program}{w:World}{H':Hp}{h':Heap}{kvs:List (Key×V)}{vs:List (Key×Value)}(z:kvs.length<=sizeLine)(hd:(a==sysModules)=false)(b:KV kvs vs)(dd:h'.DictOf (zx P w) a vs):zA P w H' h' a (.dK kvs):=⟨z,hd,vs,b,dd⟩
def EW{H':Hp}{Q:Unit->Shared->Prop}(hu:A.units+1<cLine)(I:Inv X aa σ H s)(g:DPut H a y v H')(F:RelV y u)(x:RelV v r)(h:∀s',Inv X aa σ H' s'->Q () s'):wpAny (model X.prog X.w) A (setItem (.ref a) u r) Q E s:=by
 rcases g with ⟨kvs,k,e,j,l,o⟩|⟨kvs,k,b,e,j,C,l,o⟩
 ·subst j o
  obtain⟨z,hd,vs,d,dd⟩:=yu I.hok e;have p:vs.length<=sizeLine:=by rw[<-d.length];exact z
  have i:(putK kvs k v).length<=sizeLine:=by have:=yq kvs k v;omega
  refine wpAny_setItem_pairs (hsz:=p) (n5 F) dd fun h' f hs=>h _ ?_;have he:∃q,h'.get? a=some q:=let ⟨q,_,_,hq,_⟩:=f;⟨q,hq⟩;exact uH I (by rw[e];exact True.intro) hs he (dk_new i hd (d.put k x) f)
 ·subst j o
  cases(show u=Value.ref b from F);obtain⟨z,hd,xs,d,dd⟩:=ET I.hok e;have p:xs.length<=sizeLine:=by rw[<-Paired.length d];exact z
  have i:(putK kvs k v).length<=sizeLine:=by have:=yq kvs k v;omega
  refine wpAny_setItem_heap (hsz:=p) (tupleKind_room_in1 hu) (n7 I.hok C) dd fun h' f hs=>h _ ?_;obtain⟨q,es,ep,hq,h2,G,h4,_,J⟩:=f;refine uH I (by rw[e];exact True.intro) hs ⟨q,hq⟩ ⟨i,hd,_,(d.put k C x).keeps fun c ys D=>?_,q,es,ep,hq,h2,G,h4,J⟩;rw[zh (dF D e (fun z=>nomatch z))];exact D
end
def lI(i:Expr):Prop:=∀a b,subscripted i false a b=operate [a,b] (getItem a b)
def EY{prog:Program}{w:World}{A:Around}{E:Ω}{s:Shared}{env:Env}{aJ slice:Expr}{pos:Pos}{T id:String}{Q:Ω}(j:typeLookup (.type T) "__getitem__"=pure (some (.builtin id)))(hs:lI slice)(h:wpAny (model prog w) A (eval aJ env) (fun o c=>wpAny (model prog w) A (eval slice env) (fun i a=>a.TypeIs o T/\wpAny (model prog w) A (getItem o i) Q E a) E c) E s):wpAny (model prog w) A (eval (.Subscript aJ slice pos) env) Q E s:=by
 refine Subscript_ (Bd h (fun o c f=>Bd f (fun i a b=>?_) fun _ _ x=>x) fun _ _ x=>x);obtain⟨e,b⟩:=b;unfold subscriptTail;refine Aa ?_;rw[getitemInPython_of_ne e.not_modules];refine Aa (wpAny_specialOf e j ?_);have fin:wpAny (model prog w) A (subscripted slice false o i) (fun r d=>wpAny (model prog w) A (letTemporaryGo aJ o r >>= fun _=>pure r) Q E d) E a:=by
  rw[hs o i];exact wpAny_operating (Bd b (fun r d g=>Aa (wpAny_letTemporaryGo (Ac g))) fun _ _ x=>x)
 first
  |exact Ac (Aa fin)
  |exact Aa (Ac (Aa fin))
  |exact Aa fin
def EZ{X:Cx}{aa:Ψ}{σ:St}{H:Hp}{s:Shared}{a:Addr}{y:V}{o:Option V}(I:Inv X aa σ H s)(g:DGet H a y o):s.TypeIs (.ref a) "dict":=by
 rcases g with ⟨kvs,k,e,_,_⟩|⟨kvs,k,b,e,_,_,_⟩
 ·obtain⟨_,_,vs,_,dd⟩:=n6 I.hok e
  exact dd.typeIs
 ·obtain⟨_,_,xs,_,dd⟩:=n8 I.hok e
  exact dd.typeIs
def E1(td ty:TE):TE:=fun σ H Q=>td σ H fun x H1=>ty σ H1 fun y H2=>∃a v,x=.ref a/\DGet H2 a y (some v)/\Q v H2
def uY(ty td:TE):TE:=fun σ H Q=>ty σ H fun y H1=>td σ H1 fun x H2=>∃a o,x=.ref a/\DGet H2 a y o/\Q (.bl o.isSome) H2
def E2(td ty tv:TE):TS:=fun D σ H=>tv σ H fun v H1=>td σ H1 fun x H2=>ty σ H2 fun y c=>∃a b,x=.ref a/\DPut c a y v b/\D.nx σ b
section
variable{X:Cx}{o i e aJ:Expr}{pos dz eK:Pos}{td ty tv:TE}
def yw(hu:X.A.units+1<cLine)(p:PE X o td)(hi:PE X i ty)(hs:lI i):PE X (.Subscript o i pos) (E1 td ty):=by
 intro aa s σ H Q I h;refine EY PySem.F.slot_dict_getitem.lookup hs (aR (p aa s σ H _ I h) fun u c ⟨x,H1,q,d,e⟩=>aR (hi aa c σ H1 _ q e) fun w z ⟨y,H2,b,f,a,v,ex,g,j⟩=>?_);subst ex;obtain rfl:u=Value.ref a:=d;exact⟨EZ b g,EU hu b g f fun C D r l=>⟨v,H2,r,l,j⟩⟩
def E3(hu:X.A.units+1<cLine)(hi:PE X i ty)(l:PE X o td):PC X .In i o (uY ty td):=by
 intro aa s σ H Q I h;refine aR (hi aa s σ H _ I h) fun v b ⟨y,H1,p,c,d⟩=>aR (l aa b σ H1 _ p d) fun u w ⟨x,H2,q,e,a,f,ex,g,j⟩=>?_;subst ex;obtain rfl:u=Value.ref a:=e;exact uy hu q g c fun z r=>⟨.bl f.isSome,H2,r,rfl,j⟩
def jU(hu:X.A.units+1<cLine)(q:PE X o td)(hi:PE X i ty)(w:PE X aJ tv)(hs:swapsWith aJ (some (.Subscript o i dz)) pos.line X.env=pure false):PS X (.Assign [.Subscript o i dz] aJ pos) (E2 td ty tv):=by
 intro aa s σ H D I h;refine wpAny_Assign_Subscript (aR (w aa s σ H _ I h) fun r b ⟨v,H1,z,c,d⟩=>aR (q aa b σ H1 _ z d) fun u e ⟨x,H2,C,f,j⟩=>aR (hi aa e σ H2 _ C j) fun J L ⟨y,N,E,l,a,F,ex,g,p⟩=>?_) hs;subst ex;obtain rfl:u=Value.ref a:=f;exact EW hu E g l c fun M G=>⟨σ,F,G,p⟩
end
def E4{P:Program}{w:World}{H:Hp}(h:Heap)(hb:sysModules<h.objs.size):zA P w H (h.push {cls:=.type "dict",data:=.dict #[]}) h.objs.size (.dK []):=
 ⟨AT _,beq_eq_false_iff_ne.mpr (Ne.symm (Ar hb)),[],.nil,Heap.DictOf.new h⟩
def E5{P:Program}{w:World}{H:Hp}(h:Heap)(hb:sysModules<h.objs.size):zA P w H (h.push {cls:=.type "dict",data:=.dict #[]}) h.objs.size (.dT []):=
 ⟨AT _,beq_eq_false_iff_ne.mpr (Ne.symm (Ar hb)),[],.nil,_,#[],0,Ax _ rfl,⟨rfl,rfl,rfl⟩,rfl,rfl,List.nodup_nil⟩
def E6:TE:=fun _ H Q=>∀p,H p=none->Q (.ref p) (upd H p (.dK []))
def E7:TE:=fun _ H Q=>∀p,H p=none->Q (.ref p) (upd H p (.dT []))
section
variable{X:Cx}{pos:Pos}
def E8:PE X (.Dict [] [] pos) E6:=fun aa s σ H Q I h=>
 wpAny_Dict_empty ⟨.ref s⁻¹,_,I.laid (a:=s⁻¹) (o:=.dK []) (t':=s.toks) (fun _ _ q=>Ad _ q) (Ag _) (E4 s.heap I.big),rfl,h _ (I.hok.fresh (Ag _))⟩
def jW:PE X (.Dict [] [] pos) E7:=fun aa s σ H Q I h=>
 wpAny_Dict_empty ⟨.ref s⁻¹,_,I.laid (a:=s⁻¹) (o:=.dT []) (t':=s.toks) (fun _ _ q=>Ad _ q) (Ag _) (E5 s.heap I.big),rfl,h _ (I.hok.fresh (Ag _))⟩
end
structure M1(X:Cx)(o:Expr)(m:Str)(aU:Pos)(e:Expr)(az:Pos):Prop where
 base:attributeBase o m X.env (eval o X.env)=eval o X.env
 few:((backTo az (starEach [e] X.env)).all (fun x=>!x.1)&&(backToKw az (keywordEach [] X.env)).all (fun x=>x.1.isSome)
  && decide (([e]:List Expr).length+([]:List Keyword).length+(if([]:List Keyword).isEmpty then 0 else 1)<30))=true
 line:(aU.endLine==az.line)=true
 trees:backTo az (starEach [e] X.env)=[(false,eval e X.env)]
structure M2(X:Cx)(o:Expr)(m:Str)(aU:Pos)(e f:Expr)(az:Pos):Prop where
 base:attributeBase o m X.env (eval o X.env)=eval o X.env
 few:((backTo az (starEach [e,f] X.env)).all (fun x=>!x.1)&&(backToKw az (keywordEach [] X.env)).all (fun x=>x.1.isSome)
  && decide (([e,f]:List Expr).length+([]:List Keyword).length+(if([]:List Keyword).isEmpty then 0 else 1)<30))=true
 line:(aU.endLine==az.line)=true
 trees:backTo az (starEach [e,f] X.env)=[(false,eval e X.env),(false,eval f X.env)]
def IsD(H:Hp)(a:Addr):Prop:=(∃kvs,Rd H a (.dK kvs))\/∃kvs,Rd H a (.dT kvs)
end L2
namespace Att
open PySem PySem.W PySem.Calls PyProof.Rows
def E9{P:Params}{h:Heap}:∀(ns:List Int)(vs:List Value),WellAll P h vs (ns.map WData.int)->IntsAre vs ns:=by
 intro ns
 induction ns with
 |nil=>
  intro vs w;rw[List.map_nil] at w;cases w;exact .nil
 |cons n ns ih=>
  intro vs w;rw[AE] at w;cases w with
  |cons a b=>
   cases a;exact .cons _ _ (ih _ b)
def E_{l:OpenLaw}{n:Nat}(j:l.most=some n){P:Params}{h:Heap}{args:List WData}{vals:List Value}(f:l.row.toRowW.claim.pre args=true)(o:WellAll P h vals args):∃a vs ns,vals=[Value.ref a]/\args=[WData.list (ns.map WData.int)]/\h.get? a=some {cls:=.type "list",data:=.seq vs.toArray}/\IntsAre vs ns/\ns.length<=n:=by
 have e:WShape.hasAll [] args [.list .int]=true:=(pre_splitW f).1;have hc:l.pre.holds [] {args:=args}=true:=(pre_splitW f).2;obtain⟨d,r,rfl,h1,h2⟩:=hasAllW_cons e;obtain rfl:=hasAllW_nil h2;obtain⟨xs,rfl,g⟩:=hasW_list h1;obtain⟨ns,rfl⟩:=items_int g;have b:ns.length<=n:=by
  unfold OpenLaw.pre at hc;have h4:(WTm.not (.lt (.lit (.int (n:Int))) (.len (.arg 0)))).holds [] {args:=[.list (ns.map .int)]}=true:=by
   have h4:=(holds_andW hc).1;rw[j] at h4;exact h4
  have c:=condW_of h4 (w_not (w_lt w_lit (w_len_list (w_arg rfl))));rw[Ab] at c;refine Nat.le_of_not_lt fun q=>?_;have i:(n:Int)<((ns.length:Nat):Int):=ω
  first
   |(rw[decide_eq_true i] at c;exact absurd c ξ)
   |(simp at c;omega)
 cases o with
 |cons w1 w2=>
  cases w2;cases w1 with
  |list ho hall=>exact⟨_,_,ns,rfl,rfl,ho,E9 ns _ hall,b⟩
def Fb(l:OpenLaw)(args:List WData):l.row.toRowW.claim.post args (.bool true) args=true:=
 postW_of (r:=l.row.toRowW) (X:=(true==true))
  (show WShape.has [] (.bool true) .bool=true by first|rfl|decide|simp[WShape.has,WShape.arms,WShape.armsAll])
  (show(WTm.eq .res (.lit (.bool true))).value [] {args:=args,res:=some (.bool true),after:=args}=some (.bool (true==true)) from w_eq_bool (w_res rfl) w_lit) rfl
def Fc{l:OpenLaw}{n:Nat}{q:Program}{p:List Str}{s:(Str->Option Value)->Heap->Prop}{u:World->Heap->Prop}{d:DefRec}(I:l.most=some n)(J:d.params.defaults=[])(call:∀(w:World)(s₀ b:Shared)(mg g:Str->Option Value)(fa:Addr)(o:Obj)(h e i:Value)(a:Addr)(vs:List Value)(ns:List Int),
   Ground q p [] s w s₀ mg g b.heap->u w b.heap->
   b.heap.get? fa=some o->o.data=.func (docDef d.name d.params d.body d.scope h e i)->b.heap.CodeRec e d.name->mg d.name=some (.ref fa)->
   b.heap.get? a=some {cls:=.type "list",data:=.seq vs.toArray}->IntsAre vs ns->ns.length<=n->b.gens=#[]->
   codeAny (model l.prog w) callerA (.call (.ref fa) ⟨[.ref a],[]⟩) (fun r s'=>r=.ok (.ret (.bool true))/\OldK b.heap s'.heap/\s'.os=b.os/\AllBare s'.gens) b):
  WalkO q p s u l.row.toRowW d [] (fun f vs=>PySem.call f vs):=by
 intro w s₀ b mg g G Y fa o h e i v kV x hd y j z A args vals as C L M D N;obtain rfl:v=.none:=Dflts.none j J;obtain rfl:kV=.none:=Dflts.noKw j;obtain⟨a,vs,ns,rfl,rfl,E,F,c⟩:=E_ I C D;refine enter_call (codeAny_mono (call w s₀ b mg g fa o h e i a vs ns G Y x (fd_plain hd) y z E F c A) fun r s' hq=>?_);obtain⟨rfl,h2,H,h4⟩:=hq;exact⟨.inl ⟨.bool true,.bool true,[],rfl,fun _=>rfl,.bool true,Fb l _,fun _=>⟨List.Pairwise.nil,fun _ hm=>(nomatch hm)⟩⟩,h2,H,h4⟩
section
variable{prog:Program}{w:World}{A:Around}{E:Ω}{s:Shared}{K:Frag}
def ledger(h:Heap)(L d:Addr):Ψ:=(List.range h.objs.size).filterMap fun a=>if a=L\/a=d then none else(h.get? a).map fun o=>(a,o)
end
end Att
namespace L2
open PySem PySem.Spec PyProof.Rows
def yx:∀{vs:List Value}{ns:List Int},IntsAre vs ns->Vals (ns.map V.int) vs
 |_,_,.nil=>.nil
 |_,_,.cons n t h=>.cons ⟨t,rfl⟩ (yx h)
def jf(H:Hp):Prop:=∀b,H b=none\/∃o xs,H b=some (.frz o (.lst xs))
def Fd{P:Program}{w:World}{K:Ae}{mg y:Str->Option Value}{CX:ez}{k:Nat}{fa a:Addr}{fd:FuncData}{x:Str}{sp:Sp}{c:Shared}{vs:List Value}{ns:List Int}(M:K.In c.heap)(J:c.heap.Ns mainGlobals mg)(hb:c.heap.Ns builtinsNs y)(Z:∀x:Str,x≠"__name__"->y x=A4 x)(l_:c.heap.NoLimit)(hg:c.gens=#[])(l:c.heap.get? a=some {cls:=.type "list",data:=.seq vs.toArray})(hi:IntsAre vs ns)(L:ns.length<=sizeLine)(hr:Room k callerA)(F:∀base:Heap,K.In base->base.Ns mainGlobals mg->FnOk P w K mg base CX k fa fd [x] sp)(jh:∀(s:Shared)(u:Value),BindsTo s fd ⟨[u],[]⟩ [(x,u)])(A:∀H:Hp,jf H->SqL K H a (ns.map V.int)->sp [.ref a] H (fun v _=>v=.bl true) fun _ _ _=>False)(kM:∀H e s',CX [] H c (fun _ _ _=>False) e s'->False):codeAny (model P w) callerA (.call (.ref fa) ⟨[.ref a],[]⟩) (fun r s'=>r=.ok (.ret (.bool true))/\OldK c.heap s'.heap/\s'.os=c.os/\AllBare s'.gens) c:=by
 have E:=yx hi;have T:=hi.length;have core:∀H:Hp,jf H->SqL K H a (ns.map V.int)->HOk P w H c.heap->(∀b,H b≠none->b=a)->(H a≠none->K.lookup a=none)->
   codeAny (model P w) callerA (.call (.ref fa) ⟨[.ref a],[]⟩) (fun r s'=>r=.ok (.ret (.bool true))/\OldK c.heap s'.heap/\s'.os=c.os/\AllBare s'.gens) c:=by
  intro H C N g D O;have G:∀{b:Addr}{o:Obj},c.heap.get? b=some o->H b=none->(dg c.heap H).get? b=some o:=fun e n=>DO e n;have U:∀{b:Addr}{o:Obj}{es:Array DictEntry}{ep:Nat},c.heap.get? b=some o->o.data=.dict es ep->H b=none:=fun{b o es ep} e d=>by
   cases q:H b with
   |none=>rfl
   |some u=>
    have p:b=a:=D b (by rw[q];simp);subst p;rw[l] at e;cases e;have d':Data.seq vs.toArray _=Data.dict es ep:=d;cases d'
  have f:∀{b:Addr}{m:Str->Option Value},c.heap.Ns b m->(dg c.heap H).Ns b m:=fun{b m} ⟨o,es,ep,e,d,r⟩=>⟨o,es,ep,G e (U e d),d,r⟩;have I:K.In (dg c.heap H):=fun b o e=>G (M b o e) (by
   cases q:H b with
   |none=>rfl
   |some u=>
    have p:b=a:=D b (by rw[q];simp);subst p;rw[O (by rw[q];simp)] at e;cases e)
  have W:Mod K mg (dg c.heap H):=⟨I,f J,⟨y,f hb,Z⟩,let ⟨mc,h1,h2⟩:=l_;⟨mc,f h1,h2⟩⟩;have X:Env0 P w K mg (dg c.heap H) callerA [] c H:=⟨rfl,W,fun b o e=>DP e,Nat.le_of_eq (DN _ _),trivial,fun b hb=>absurd (show b∈([]:List Addr) from hb) (by simp),g,.of_eq hg⟩;refine codeAny_mono ((F _ I (f J)).run callerA [] c H ⟨[.ref a],[]⟩ [.ref a] [.ref a] _ _ hr X (jh c (.ref a)) (.cons rfl .nil) (A H C N)) fun r s' h=>?_;cases r with
  |error e=>exact(kM H e s' h).elim
  |ok fl=>
   cases fl with
   |next=>exact False.elim h
   |brk=>exact False.elim h
   |cont=>exact False.elim h
   |ret u=>
    obtain⟨v,H',os,i,un,Q,S,q⟩:=h;have Y:v=.bl true:=q;subst Y;obtain rfl:u=Value.bool true:=S;refine⟨rfl,OldK.of_keep fun b o e=>?_,os,i⟩;cases q:H b with
    |none=>exact un.keep b o e q (by intro z;exact absurd (show b∈([]:List Addr) from z) (by simp)) (by simp)
    |some u=>
     rcases C b with z|⟨ob,xs,z⟩
     ·rw[q] at z;cases z
     ·have z2:=un.frzs b ob _ z
      obtain⟨e1,_⟩:=g b _ z;obtain⟨e2,_⟩:=Q b _ z2;rw[e] at e1;cases e1;exact e2
 cases hk:K.lookup a with
 |some o=>
  have e:=M a o hk;rw[l] at e;cases e;refine core (fun _=>none) (fun _=>.inl rfl) (.inr ⟨_,vs.toArray,_,hk,rfl,rfl,rfl,by rw[Aj,T];exact L,by simpa using E⟩) (fun b u z=>by have j:(none:Option HO)=some u:=z;cases j) (fun b z=>absurd rfl z) fun z=>absurd rfl z
 |none=>
  refine core (fun b=>if b=a then some (.frz {cls:=.type "list",data:=.seq vs.toArray} (.lst (ns.map V.int))) else none) (fun b=>?_) (.inl (.inr ⟨{cls:=.type "list",data:=.seq vs.toArray},if_pos rfl⟩)) (fun b u z=>?_) (fun b z=>?_) fun _=>hk
  ·by_cases hb:b=a
   ·exact .inr ⟨_,_,if_pos hb⟩
   ·exact .inl (if_neg hb)
  ·by_cases hb:b=a
   ·have j:=(if_pos hb).symm.trans z
    cases j;subst hb;exact⟨l,by rw[Ab];exact L,vs,_,E,l⟩
   ·have j:=(if_neg hb).symm.trans z
    cases j
  ·by_cases hb:b=a
   ·exact hb
   ·exact absurd (if_neg hb) z
abbrev yy{K:Ae}{h:Heap}(_:K.In h):Ae:=K
def yz{l:PySem.W.OpenLaw}{n k:Nat}{q:Program}{J:List Str}{Q:(Str->Option Value)->Heap->Prop}{p:World->Heap->Prop}{d:DefRec}{K:Params->Ae}{CX:World->ez}{sp:World->Sp}{x:Str}(L:l.most=some n)(M:n<=sizeLine)(N:d.params.defaults=[])(hr:Room k callerA)(O:∀(w:World)(h:Heap),p w h->(K w.params).In h)(F:∀(w:World)(mg:Str->Option Value)(fa:Addr)(h:Heap),(K w.params).In h->h.Ns mainGlobals mg->mg d.name=some (.ref fa)->
   ∃fd:FuncData,(∀(s:Shared)(u:Value),BindsTo s fd ⟨[u],[]⟩ [(x,u)])/\
    ∀base:Heap,(K w.params).In base->base.Ns mainGlobals mg->FnOk l.prog w (K w.params) mg base (CX w) k fa fd [x] (sp w))
  (i:∀(w:World)(H:Hp)(a:Addr)(ns:List Int),ns.length<=n->jf H->SqL (K w.params) H a (ns.map V.int)->sp w [.ref a] H (fun v _=>v=.bl true) fun _ _ _=>False)
  (P:∀(w:World)(H:Hp)(s:Shared)(e:Value)(s':Shared),CX w [] H s (fun _ _ _=>False) e s'->False) :
  PySem.W.WalkO q J Q p l.row.toRowW d [] (fun f vs=>PySem.call f vs):=by
 refine Att.Fc L N fun w s₀ r mg S fa o U X Z a vs ns G Y ho hd bQ y z A c C=>?_;have j:=O w _ Y;obtain⟨fd,hb,I⟩:=F w mg fa _ j G.T.g y;exact Fd j G.T.g G.T.b G.T.builtins G.T.nolimit C z A (AA c M) hr I hb (fun H D E=>i w H a ns c D E) fun H e s'=>P w H r e s'
end L2
/- THE LAST THEOREM (shape;LID,My.* are yours):
  My.Adr: a structure of jS addresses that your layer names (classes,functions);My.Txt K t: a structure (Prop) of jS equations over K;
  My.txt_mk:{K} {implicit addresses ..} (e1:nsIn K mainGlobals "law"=some (some (.ref f))) (e2:K.lookup f=some ⟨oc,od,.func (fnOf "law" "law" bh body scope dV kV bf pm an cdv ct),sl⟩) (e3:codeIn K cdv "law"=true) ..:∃t,My.Txt K t
set_option maxRecDepth 100000 in
set_option maxHeartbeats 0 in
theorem PySem.Challenge.cw_LID_holds:PySem.Challenge.rw_LID.Holds := by
 w_on;o_law;k_head;(case hw=>w_witness2)
 k_fill
 refine L2.yz (l:=PySem.Challenge.rw_LID) (n:=63) (k:=40) (x:="script") (CX:=fun w=>..) (sp:=fun _=>My.sp_law) rfl ξ rfl ⟨rfl,ξ,ξ⟩ (fun w h Y=>PySem.W.kIn_of Y) ?F ?S ?C
 case F=>
  intro w mg fa h f G g;have T:∃t,My.Txt (L2.yy f) t:=by
   dsimp only[L2.yy]                          -- K must cH as «<heap const> w.params» for k_is
   refine' My.txt_mk ?e1 ?e2 ?e3 ..
   (case e1 => PySem.W.k_is)                    -- in e aD: a name -> ag address -> ag object -> ag parts
   (case e2=>PySem.W.k_is)
   ..
  obtain⟨t,T⟩:=T;have i:=g.symm.trans (PySem.W.mg_of f G T.law);cases i                                       -- fa is e law's own address
  exact⟨_,fun s u => .of_eq rfl,fun base c d => My.law_fn T c d⟩     -- if «.of_eq rfl» comes too early: refine' ⟨_,?b,fun base c d => My.law_fn T c d⟩;exact fun s u => .of_eq rfl
 case S=>exact fun w H a ns j o p=>..
 case C=>exact ..
(e tactic k_is has q namespace: write k_is) -/
namespace L2
open PySem PySem.Spec PyProof.Rows
def zbv(s:Stmt):Arguments:=match s with
 |.FunctionDef _ a _ _ _ _ _ _ _ _=>a
 |_=>{posonlyargs:=[],args:=[],vararg:=none,kwonlyargs:=[],kw_defaults:=[],kwarg:=none,defaults:=[]}
def zE(s:Stmt):List Stmt:=match s with
 |.FunctionDef _ _ b _ _ _ _ _ _ _=>b
 |_=>[]
def ze(s:Stmt):Scope:=match s with
 |.FunctionDef _ _ _ _ _ _ sc _ _ _=>sc
 |_=>{kind:=.function,names:=[],isGenerator:=false,isCoroutine:=false}
abbrev aE:ez:=fun _ _ _ _ _ _=>False
abbrev E0:XK:=fun _ _ _=>False
def aw{X:Cx}:bW aE X E0:=fun _ _ _ _ _ _ _ h=>h.elim
structure Fun(K:Ae)(x am:Str)(st:Stmt)(f:Addr)(fd:FuncData):Prop where
 ex:∃(oc:Value)(od:Option Addr)(kV bf pm:Value)(an:Option Addr)(cdv ct:Value)(df:Array (Option Value)),
  fd=PySem.W.fnOf x am (zbv st) (zE st) (ze st) .none kV bf pm an cdv ct/\K.lookup f=some ⟨oc,od,.func fd,df⟩/\PySem.W.codeIn K cdv am=true
 kp:PySem.W.keepIn K (.ref f)=true
section
variable{P:Program}{w:World}{K:Ae}{mg:Str->Option Value}{base:Heap}
def Fun.ok{x b:Str}{st:Stmt}{f:Addr}{fd:FuncData}{N ps:List Str}{k:Nat}{sp:Sp}(F:Fun K x b st f fd)(S:zo N ps (ze st))(len:∀vs H Q E,sp vs H Q E->vs.length=ps.length)(d:∀(cdv:Value)(A:Around)(outer:List Env)(s:Shared)(H:Hp)(vs:List V)(Q:VK)(E:XK),Room k (A.deeper (envOfC b (ze st) s⁻¹ f cdv))->sp vs H Q E->
   ∃t,PSs (aZ aE P w K mg base N b (ze st) f cdv A outer s H E).nox (zE st) t/\t {nx:=fun _ H'=>Q .non H',rt:=Q} (start N vs) H):FnOk P w K mg base aE (k+1) f fd ps sp:=by
 obtain⟨e,g,kV,i,j,l,cdv,ct,o,rfl,lk,c⟩:=F.ex;refine yd lk c S len fun A outer s H vs Q E hr a=>?_;obtain⟨t,h,q⟩:=d cdv A outer s H vs Q E hr a;exact⟨t,h.nox,q⟩
def Fun.binds{x d:Str}{st:Stmt}{f:Addr}{fd:FuncData}{ps:List Str}(F:Fun K x d st f fd)(h:∀(kV a b:Value)(c:Option Addr)(cdv ct:Value)(us:List Value),us.length=ps.length->bindArgs (PySem.W.fnOf x d (zbv st) (zE st) (ze st) .none kV a b c cdv ct) ⟨us,[]⟩=pure (ps.zip us)):Binds K fd ps []:=by
 obtain⟨e,g,kV,a,b,c,cdv,ct,i,rfl,lk,j⟩:=F.ex;exact .all (h kV a b c cdv ct)
def Fe{x a:Str}{st:Stmt}{f:Addr}{h:Value}{i e:Option Addr}{g:Array (Option Value)}{kV b d cdv ct:Value}(l:K.lookup f=some ⟨h,i,.func (PySem.W.fnOf x a (zbv st) (zE st) (ze st) .none kV b d e cdv ct),g⟩)(c:PySem.W.codeIn K cdv a=true)(k:PySem.W.keepIn K (.ref f)=true):Fun K x a st f (PySem.W.fnOf x a (zbv st) (zE st) (ze st) .none kV b d e cdv ct):=⟨⟨h,i,kV,b,d,e,cdv,ct,g,rfl,l,c⟩,k⟩
end
def hY{A:Around}{k:Nat}(hr:Room k A):A.units+1<cLine:=Nat.lt_of_le_of_lt (Nat.add_le_add_left (by decide:1<=64) _) hr.units
section
variable{X:Cx}
def pv(i:Nat){x:Str}{pos:Pos}(a:X.N[i]?=some x:=by rfl)(b:jB X.env.scope x:=by first|exact Or.inl rfl|exact Or.inr (Or.inl rfl)|exact Or.inr (Or.inr rfl))(hd:(x==("__debug__":Str))=false:=by decide)
  (c:(x==("__classdict__":Str))=false:=by decide):PE X (.Name x pos) (a' i):=DS a b hd c
end
def aW{A B:Prop}(h:B):if false=true then A else B:=by
 rw[if_neg As];exact h
def aK{A B:Prop}(h:A):if true=true then A else B:=by
 rw[if_pos rfl];exact h
def bv{c A B:Prop}[Decidable c](h1:c->A)(h2:¬c->B):if c then A else B:=by
 by_cases h:c
 ·rw[if_pos h]
  exact h1 h
 ·rw[if_neg h]
  exact h2 h
def Same(H H':Hp):Prop:=∀b o,H b=some o->H' b=some o
def Same.refl(H:Hp):Same H H:=fun _ _ h=>h
def Same.trans{H H1 H2:Hp}(a:Same H H1)(b:Same H1 H2):Same H H2:=fun c o h=>b c o (a c o h)
def Same.free{H H':Hp}(e:Same H H'){l:Addr}(h:H' l=Option.none):H l=Option.none:=by
 cases q:H l with
 |none=>rfl
 |some o=>
  rw[e l o q] at h;cases h
def Same.seq{K:Ae}{H H':Hp}{a:Addr}{xs:List V}(e:Same H H')(h:SqL K H a xs):SqL K H' a xs:=by
 rcases h with (h|⟨o,h⟩)|h
 ·exact .inl (.inl (e _ _ h))
 ·exact .inl (.inr ⟨o,e _ _ h⟩)
 ·exact .inr h
end L2
end
section
namespace Tim
open PySem PyProof.Rows
def R(ρ:Keyed->Int)(xs:Array Keyed)(i:Nat):Int:=match xs[i]? with
 |some p=>ρ p
 |none=>0
def lJ{ρ:Keyed->Int}{xs ys:Array Keyed}{i j:Nat}(h:xs[i]?=ys[j]?):R ρ xs i=R ρ ys j:=by unfold R;rw[h]
def ij{ρ:Keyed->Int}{xs:Array Keyed}{i:Nat}{p:Keyed}(h:xs[i]?=some p):R ρ xs i=ρ p:=by unfold R;rw[h]
def bH(ρ:Keyed->Int)(xs:Array Keyed)(lo hi:Nat):Prop:=∀i j,lo<=i->i<=j->j<hi->R ρ xs i<=R ρ xs j
def jZ(ρ:Keyed->Int)(xs:Array Keyed)(lo hi:Nat):Prop:=∀i j,lo<=i->i<=j->j<hi->R ρ xs j<=R ρ xs i
def u5{ρ:Keyed->Int}{xs:Array Keyed}{i j:Nat}(a:j<=xs.size)(k:Nat):R ρ (mirror xs i j ((j-i) / 2)) k=if i<=k/\k<j then R ρ xs (i+j-1-k) else R ρ xs k:=by
 have e:=getElem?_mirror_all (i:=i) a k
 by_cases h1:i<=k/\k<j
 ·rw[if_pos h1] at e ⊢;exact lJ e
 ·rw[if_neg h1] at e ⊢;exact lJ e
def zW{ρ:Keyed->Int}{xs:Array Keyed}{i j:Nat}(b:j<=xs.size)(a:∀k,i<=k->k<j->R ρ xs k=R ρ xs (j-1))(k:Nat):R ρ (mirror xs i j ((j-i) / 2)) k=R ρ xs k:=by
 rw[u5 b];split
 ·rw[a _ ω ω,a k ω ω]
 ·rfl
def yA{ρ:Keyed->Int}{xs:Array Keyed}{src d:Nat}(hs:src<xs.size)(hd:d<=src)(k:Nat):R ρ (bubble xs src d) k=if k=src-d then R ρ xs src else if src-d<k/\k<=src then R ρ xs (k-1) else R ρ xs k:=by
 have e:=getElem?_bubble hs d hd k
 by_cases h1:k=src-d
 ·rw[if_pos h1] at e ⊢;exact lJ e
 ·rw[if_neg h1] at e ⊢
  by_cases h2:src-d<k/\k<=src
  ·rw[if_pos h2] at e ⊢;exact lJ e
  ·rw[if_neg h2] at e ⊢;exact lJ e
structure fi(prog:Program)(w:World)(A:Around)(s:Shared)(κ:SortKind)(a₀:Array Keyed)(ρ:Keyed->Int):Prop where
 lt:∀x y,x∈a₀.toList->y∈a₀.toList->∀(Q:Bool->Shared->Prop)(E:Ω),Q (decide (ρ x<ρ y)) s->wpAny (model prog w) A (keyLt' κ x.1 y.1) Q E s
structure B(κ:SortKind)(a₀:Array Keyed)(st:SortSt):Prop where
 perm:(arrOf st).Perm a₀
 kind:kindOf st=κ
 failed:failedOf st=none
def B.size{κ:SortKind}{a₀:Array Keyed}{st:SortSt}(h:B κ a₀ st):(arrOf st).size=a₀.size:=h.perm.size_eq
def B.setArr{κ:SortKind}{a₀:Array Keyed}{st:SortSt}(h:B κ a₀ st){xs:Array Keyed}(hp:xs.Perm (arrOf st)):B κ a₀ (setArr st xs):=⟨hp.trans h.perm,h.kind,h.failed⟩
def B.mem{κ:SortKind}{a₀:Array Keyed}{st:SortSt}(h:B κ a₀ st){p:Keyed}(hp:p∈(arrOf st).toList):p∈a₀.toList:=(Array.perm_iff_toList_perm.mp h.perm).mem_iff.mp hp
def yB{xs:Array Keyed}{i:Nat}(hi:i<xs.size):∃p,xs[i]?=some p/\p∈xs.toList:=⟨xs[i],getElem?_pos _ i hi,by simp⟩
structure Pre(lo:Nat)(st ah:SortSt):Prop where
 arr:∀k,k<lo->(arrOf ah)[k]?=(arrOf st)[k]?
 pend:pendingOf ah=pendingOf st
def Pre.refl{lo:Nat}{st:SortSt}:Pre lo st st:=⟨fun _ _=>rfl,rfl⟩
def Pre.trans{lo:Nat}{a b c:SortSt}(x:Pre lo a b)(y:Pre lo b c):Pre lo a c:=⟨fun k h=>(y.arr k h).trans (x.arr k h),y.pend.trans x.pend⟩
def Pre.mir{lo i j:Nat}{st:SortSt}(a:j<=(arrOf st).size)(hi:lo<=i):Pre lo st (setArr st (mirror (arrOf st) i j ((j-i) / 2))):=
 ⟨fun k h=>by show(mirror _ _ _ _)[k]?=_;rw[getElem?_mirror_all a,if_neg ω],rfl⟩
def Pre.bub{lo src d:Nat}{st:SortSt}(hs:src<(arrOf st).size)(hd:d<=src)(a:lo<=src-d):Pre lo st (setArr st (bubble (arrOf st) src d)):=
 ⟨fun k h=>by show(bubble _ _ _)[k]?=_;rw[getElem?_bubble hs d hd,if_neg ω,if_neg ω],rfl⟩
section
variable{prog:Program}{w:World}{A:Around}{E:Ω}{s:Shared}{κ:SortKind}{a₀:Array Keyed}{ρ:Keyed->Int}
def Ff(C:fi prog w A s κ a₀ ρ){st:SortSt}(a:B κ a₀ st){x y:Keyed}(hx:x∈a₀.toList)(hy:y∈a₀.toList){Q:Option Bool->SortSt->Prop}(h:Q (some (decide (ρ x<ρ y))) st):wpS (model prog w) A E s (lt' x y) Q st:=by
 rw[lt'_eq];refine wpS_bind (wpS_get ?_);rw[a.kind];refine wpS_bind (wpS_lift (wpAny_attempt (C.lt x y hx hy _ _ ⟨rfl,?_⟩)));exact wpS_pure h
def yC{st:SortSt}{xs:Array Keyed}{i:Nat}{p:Keyed}(h:xs[i]?=some p){Q:Keyed->SortSt->Prop}(hq:Q p st):wpS (model prog w) A E s (elem' xs i) Q st:=by
 rw[elem'_eq,h];exact wpS_pure hq
def lL(C:fi prog w A s κ a₀ ρ){st:SortSt}(a:B κ a₀ st){i j:Nat}(hi:i<a₀.size)(d:j<a₀.size){Q:Option Bool->SortSt->Prop}(h:Q (some (decide (R ρ (arrOf st) i<R ρ (arrOf st) j))) st):wpS (model prog w) A E s (ltAt' i j) Q st:=by
 obtain⟨p,e1,b⟩:=yB (xs:=arrOf st) (i:=i) (by rw[a.size];exact hi);obtain⟨q,e2,c⟩:=yB (xs:=arrOf st) (i:=j) (by rw[a.size];exact d);rw[ltAt'_eq];refine wpS_bind (wpS_get ?_);show wpS _ _ _ _ (do let x <-elem' (arrOf st) i;let y <-elem' (arrOf st) j;lt' x y) Q st;refine wpS_bind (yC e1 (wpS_bind (yC e2 (Ff C a (a.mem b) (a.mem c) ?_))));rw[ij e1,ij e2] at h;exact h
def asc(lo a b:Nat):StateT SortSt Sem AscSt:=
 forIn [a:b] ((none,a):AscSt) fun _ __s=>do
  let __x <-ltAt' (lo+__s.snd) (lo+__s.snd-1)
  match __x with
  |some smaller=>if smaller=true then pure (ForInStep.done (none,__s.snd)) else pure (ForInStep.yield (none,__s.snd+1))
  |_=>pure (ForInStep.done (some none,__s.snd))
def lN(lo n a:Nat):StateT SortSt Sem (Option Nat):=do
 reverseSlice' lo (lo+n)
 let __s <-asc lo n a
 match __s.fst with
 |some r=>pure r
 |none=>pure (some __s.snd)
def n9(lo n a:Nat):StateT SortSt Sem DescSt:=
 forIn [n:a] ((none,n,0):DescSt) fun _ __s=>do
  let __x <-ltAt' (lo+__s.snd.fst) (lo+__s.snd.fst-1)
  match __x with
  |some smaller=>
   if smaller=true then
    if __s.snd.snd>0 then do
     reverseSlice' (lo+__s.snd.fst-(__s.snd.snd+1)) (lo+__s.snd.fst)
     pure (ForInStep.yield (none,__s.snd.fst+1,0))
    else pure (ForInStep.yield (none,__s.snd.fst+1,0))
   else do
    let __x <-ltAt' (lo+__s.snd.fst-1) (lo+__s.snd.fst)
    match __x with
    |some larger=>
     if larger=true then pure (ForInStep.done (none,__s.snd.fst,__s.snd.snd))
     else pure (ForInStep.yield (none,__s.snd.fst+1,__s.snd.snd+1))
    |_=>pure (ForInStep.done (some none,__s.snd.fst,__s.snd.snd))
  |_=>pure (ForInStep.done (some none,__s.snd.fst,__s.snd.snd))
def lQ(lo n a:Nat):StateT SortSt Sem (Option Nat):=do
 liftM (rule "list.sort.descending-run")
 let __s <-n9 lo (n+1) a
 match __s.fst with
 |some r=>pure r
 |none=>
  if __s.snd.snd>0 then do
   reverseSlice' (lo+__s.snd.fst-(__s.snd.snd+1)) (lo+__s.snd.fst)
   lN lo __s.snd.fst a
  else lN lo __s.snd.fst a
def bc{b c:Type}{m:StateT SortSt Sem b}{f g:b->StateT SortSt Sem c}(h:∀a,f a=g a):(m >>= f)=(m >>= g):=by
 have e:f=g:=funext h;rw[e]
def Fg(lo d:Nat):countRun' lo d=(do
  let __s <-asc lo 1 d
  match __s.fst with
  |some r=>pure r
  |none=>
   if(__s.snd==d)=true then pure (some __s.snd)
   else if __s.snd>1 then do
    let __x <-ltAt' lo (lo+__s.snd-1)
    match __x with
    |some rose=>if rose=true then pure (some __s.snd) else do
      reverseSlice' lo (lo+__s.snd)
      lQ lo __s.snd d
    |_=>pure none
   else lQ lo __s.snd d):=by
 rw[countRun'_eq];unfold lQ lN n9 asc;refine bc fun g=>?_;obtain⟨r,n⟩:=g;cases r with
 |some r=>rfl
 |none=>
  dsimp only;split
  ·rfl
  ·split
   ·refine bc fun x=>?_
    cases x with
    |none=>rfl
    |some rose=>
     dsimp only;split
     ·rfl
     ·refine bc fun _r=>bc fun _u=>bc fun e=>?_
      obtain⟨c,n2,h⟩:=e;cases c with
      |some c=>rfl
      |none=>
       dsimp only;split
       ·refine bc fun _v=>bc fun _w=>bc fun a=>?_
        obtain⟨b,f⟩:=a;cases b<;>rfl
       ·refine bc fun _w=>bc fun a=>?_
        obtain⟨b,f⟩:=a;cases b<;>rfl
   ·refine bc fun _u=>bc fun e=>?_
    obtain⟨c,n2,h⟩:=e;cases c with
    |some c=>rfl
    |none=>
     dsimp only;split
     ·refine bc fun _v=>bc fun _w=>bc fun a=>?_
      obtain⟨b,f⟩:=a;cases b<;>rfl
     ·refine bc fun _w=>bc fun a=>?_
      obtain⟨b,f⟩:=a;cases b<;>rfl
def yD(C:fi prog w A s κ a₀ ρ){st:SortSt}{lo a e:Nat}{Q:AscSt->SortSt->Prop}(D:lo+e<=a₀.size)(F:1<=a)(u:a<=e)(v:B κ a₀ st)(hs:bH ρ (arrOf st) lo (lo+a))(h:∀n,a<=n->n<=e->bH ρ (arrOf st) lo (lo+n)->(n=e\/R ρ (arrOf st) (lo+n)<R ρ (arrOf st) (lo+n-1))->Q (none,n) st):wpS (model prog w) A E s (asc lo a e) Q st:=by
 unfold asc;refine wpS_forRange (I:=fun x c f=>f=st/\c=(none,x)/\bH ρ (arrOf st) lo (lo+x)) ?step ?fin ⟨rfl,rfl,hs⟩
 case fin=>
  rintro c f ⟨rfl,rfl,d⟩;rw[show max a e=e from ω] at d ⊢;exact h e u (Ag _) d (.inl rfl)
 case step=>
  rintro x c f r z ⟨rfl,rfl,d⟩;dsimp only;refine wpS_bind (lL C v ω ω ?_)
  by_cases b:R ρ (arrOf f) (lo+x)<R ρ (arrOf f) (lo+x-1)
  ·simp only[b,decide_true,if_true]
   exact wpS_pure (h x r ω d (.inr b))
  ·simp only[b,decide_false,An,if_false]
   refine wpS_pure ⟨rfl,rfl,fun i j q g y=>?_⟩
   by_cases o:j<lo+x
   ·exact d i j q g o
   ·have l:j=lo+x:=ω
    subst l
    by_cases p:i=lo+x
    ·subst p;exact Int.le_refl _
    ·exact Int.le_trans (d i (lo+x-1) q ω ω) (Int.not_lt.mp b)
def n_{st:SortSt}{i j:Nat}{Q:Unit->SortSt->Prop}(h:Q () (setArr st (mirror (arrOf st) i j ((j-i) / 2)))):wpS (model prog w) A E s (reverseSlice' i j) Q st:=by
 rw[reverseSlice'_eq];exact wpS_modify h
abbrev Got(κ:SortKind)(a₀:Array Keyed)(ρ:Keyed->Int)(lo ar:Nat)(st:SortSt)(Q:Option Nat->SortSt->Prop):Prop:=
 ∀m ah,B κ a₀ ah->Pre lo st ah->1<=m->m<=ar->bH ρ (arrOf ah) lo (lo+m)->Q (some m) ah
def yE(C:fi prog w A s κ a₀ ρ){st e:SortSt}{lo n a:Nat}{Q:Option Nat->SortSt->Prop}(o:lo+a<=a₀.size)(h1:1<=n)(c:n<=a)(f:B κ a₀ st)(p:Pre lo e st)(hs:jZ ρ (arrOf st) lo (lo+n))(h:Got κ a₀ ρ lo a e Q):wpS (model prog w) A E s (lN lo n a) Q st:=by
 unfold lN;have hsz:lo+n<=(arrOf st).size:=by rw[f.size];omega
 refine wpS_bind (n_ ?_);have d:B κ a₀ (setArr st (mirror (arrOf st) lo (lo+n) ((lo+n-lo) / 2))):=f.setArr (mirror_perm _ _ _ _);refine wpS_bind (yD C o h1 c d ?_ fun m q g b _=>wpS_pure (h m _ d (p.trans (.mir hsz (Ag _))) ω g b));intro i j r l u;show R ρ (mirror (arrOf st) lo (lo+n) ((lo+n-lo) / 2)) i<=R ρ (mirror (arrOf st) lo (lo+n) ((lo+n-lo) / 2)) j;rw[u5 hsz,u5 hsz,if_pos ω,if_pos ω];exact hs _ _ ω ω ω
def Fh(C:fi prog w A s κ a₀ ρ){st F:SortSt}{lo n u:Nat}{Q:DescSt->SortSt->Prop}(P:lo+u<=a₀.size)(h1:1<=n)(G:n<=u)(M:B κ a₀ st)(N:Pre lo F st)(hs:jZ ρ (arrOf st) lo (lo+n))(h:∀m f a,B κ a₀ a->Pre lo F a->n<=m->m<=u->jZ ρ (arrOf a) lo (lo+m)->f+1<=m->(∀i,lo+m-(f+1)<=i->i<lo+m->R ρ (arrOf a) i=R ρ (arrOf a) (lo+m-1))->Q (none,m,f) a):wpS (model prog w) A E s (n9 lo n u) Q st:=by
 unfold n9;refine wpS_forRange (I:=fun x c a=>∃f,c=(none,x,f)/\B κ a₀ a/\Pre lo F a/\jZ ρ (arrOf a) lo (lo+x)/\f+1<=x/\
   (∀i,lo+x-(f+1)<=i->i<lo+x->R ρ (arrOf a) i=R ρ (arrOf a) (lo+x-1))) ?step ?fin ⟨0,rfl,M,N,hs,ω,fun i h1 h2=>by congr 1;omega⟩
 case fin=>
  rintro c a ⟨f,rfl,l,z,b,hq,he⟩;rw[show max n u=u from ω] at b hq he ⊢;exact h u f a l z G (Ag _) b hq he
 case step=>
  rintro x c a L O ⟨f,rfl,l,z,b,hq,he⟩;dsimp only;have hsz:lo+x<=(arrOf a).size:=by rw[l.size];omega
  refine wpS_bind (lL C l ω ω ?_)
  by_cases e:R ρ (arrOf a) (lo+x)<R ρ (arrOf a) (lo+x-1)
  ·simp only[e,decide_true,if_true]
   have g:∀xs:Array Keyed,(∀k,R ρ xs k=R ρ (arrOf a) k)->jZ ρ xs lo (lo+(x+1)):=by
    intro xs hk i j D q J;rw[hk,hk]
    by_cases v:j<lo+x
    ·exact b i j D q v
    ·have r:j=lo+x:=ω
     subst r
     by_cases y:i=lo+x
     ·subst y;exact Int.le_refl _
     ·exact Int.le_trans (Int.le_of_lt e) (b i (lo+x-1) D ω ω)
   by_cases p:f>0
   ·rw[if_pos p]
    refine wpS_bind (n_ (wpS_pure ⟨0,rfl,l.setArr (mirror_perm _ _ _ _),z.trans (.mir hsz ω),g _ (zW hsz he),ω,fun i h1 h2=>by congr 1;omega⟩))
   ·rw[if_neg p]
    exact wpS_pure ⟨0,rfl,l,z,g _ (fun _=>rfl),ω,fun i h1 h2=>by congr 1;omega⟩
  ·simp only[e,decide_false,An,if_false]
   refine wpS_bind (lL C l ω ω ?_)
   by_cases d:R ρ (arrOf a) (lo+x-1)<R ρ (arrOf a) (lo+x)
   ·simp only[d,decide_true,if_true]
    exact wpS_pure (h x f a l z L ω b hq he)
   ·simp only[d,decide_false,An,if_false]
    have o:R ρ (arrOf a) (lo+x)=R ρ (arrOf a) (lo+x-1):=ω
    refine wpS_pure ⟨f+1,rfl,l,z,fun i j D q J=>?_,ω,fun i h1 h2=>?_⟩
    ·by_cases v:j<lo+x
     ·exact b i j D q v
     ·have r:j=lo+x:=ω
      subst r
      by_cases y:i=lo+x
      ·subst y;exact Int.le_refl _
      ·rw[o];exact b i (lo+x-1) D ω ω
    ·rw[show lo+(x+1)-1=lo+x from ω]
     by_cases H:i=lo+x
     ·subst H;rfl
     ·rw[o];exact he i ω ω
def yF(C:fi prog w A s κ a₀ ρ){st q:SortSt}{lo n c:Nat}{Q:Option Nat->SortSt->Prop}(g:lo+c<=a₀.size)(l:n+1<=c)(x:B κ a₀ st)(y:Pre lo q st)(hs:jZ ρ (arrOf st) lo (lo+(n+1)))(h:Got κ a₀ ρ lo c q Q):wpS (model prog w) A E s (lQ lo n c) Q st:=by
 unfold lQ;refine wpS_bind (wpS_lift (wpAny_rule ⟨rfl,?_⟩));refine wpS_bind (Fh C g ω l x y hs fun m r d e o z p b hq he=>?_);dsimp only;have hsz:lo+m<=(arrOf d).size:=by rw[e.size];omega
 by_cases a:r>0
 ·rw[if_pos a]
  refine wpS_bind (n_ (yE C g ω p (e.setArr (mirror_perm _ _ _ _)) (o.trans (.mir hsz ω)) ?_ h));intro i j u f v;show R ρ (mirror (arrOf d) _ _ _) j<=R ρ (mirror (arrOf d) _ _ _) i;rw[zW hsz he,zW hsz he];exact b i j u f v
 ·rw[if_neg a]
  exact yE C g ω p e o b h
def Fj(C:fi prog w A s κ a₀ ρ){st:SortSt}{lo p:Nat}{Q:Option Nat->SortSt->Prop}(x:lo+p<=a₀.size)(h1:1<=p)(c:B κ a₀ st)(h:Got κ a₀ ρ lo p st Q):wpS (model prog w) A E s (countRun' lo p) Q st:=by
 rw[Fg];refine wpS_bind (yD C x (Ag 1) h1 c (fun i j f g z=>by have:i=j:=ω;subst this;exact Int.le_refl _) fun n D F r G=>?_);dsimp only
 by_cases d:n=p
 ·rw[if_pos (by simpa using d)]
  exact wpS_pure (h n st c .refl D F r)
 ·rw[if_neg (by simpa using d)]
  have l:R ρ (arrOf st) (lo+n)<R ρ (arrOf st) (lo+n-1):=G.resolve_left d
  by_cases q:n>1
  ·rw[if_pos q]
   refine wpS_bind (lL C c ω ω ?_)
   by_cases b:R ρ (arrOf st) lo<R ρ (arrOf st) (lo+n-1)
   ·simp only[b,decide_true,if_true]
    exact wpS_pure (h n st c .refl D F r)
   ·simp only[b,decide_false,An,if_false]
    have hsz:lo+n<=(arrOf st).size:=by rw[c.size];omega
    have a:∀k,lo<=k->k<lo+n->R ρ (arrOf st) k=R ρ (arrOf st) (lo+n-1):=by
     intro k f hk;have I:=r lo k ω f hk;have J:=r k (lo+n-1) f ω ω;omega
    refine wpS_bind (n_ (yF C x ω (c.setArr (mirror_perm _ _ _ _)) (.mir hsz (Ag _)) ?_ h));intro i j f g z;show R ρ (mirror (arrOf st) _ _ _) j<=R ρ (mirror (arrOf st) _ _ _) i;rw[zW hsz a,zW hsz a]
    by_cases y:j<lo+n
    ·rw[a i ω ω,a j ω y];exact Int.le_refl _
    ·have u:j=lo+n:=ω
     subst u
     by_cases e:i=lo+n
     ·subst e;exact Int.le_refl _
     ·rw[a i ω ω];exact Int.le_of_lt l
  ·rw[if_neg q]
   have o:n=1:=ω
   subst o;refine yF C x ω c .refl ?_ h;intro i j f g z
   by_cases e:i=j
   ·subst e;exact Int.le_refl _
   ·have H:i=lo:=ω
    have v:j=lo+1:=ω
    subst H;subst v;exact Int.le_of_lt l
def Fl(C:fi prog w A s κ a₀ ρ){st:SortSt}{lo n ok:Nat}{Q:Bool->SortSt->Prop}(S:lo+n<=a₀.size)(J:ok<=n)(L:B κ a₀ st)(hs:bH ρ (arrOf st) lo (lo+ok))(h:∀a,B κ a₀ a->Pre lo st a->bH ρ (arrOf a) lo (lo+n)->Q true a):wpS (model prog w) A E s (binarySort' lo n ok) Q st:=by
 rw[binarySort'_eq];refine wpS_bind (wpS_mono (wpS_forRange (I:=fun k c a=>c=(none,())/\B κ a₀ a/\Pre lo st a/\bH ρ (arrOf a) lo (lo+min k n))
  (Q:=fun c a=>c=(none,())/\B κ a₀ a/\Pre lo st a/\bH ρ (arrOf a) lo (lo+n)) ?step ?fin ?init) ?post)
 case post=>
  rintro c a ⟨rfl,g,q,d⟩;exact wpS_pure (h a g q d)
 case init=>
  refine⟨rfl,L,.refl,fun i j z p D=>?_⟩
  by_cases h1:ok=0
  ·have:i=j:=ω
   subst this;exact Int.le_refl _
  ·exact hs i j z p ω
 case fin=>
  rintro c a ⟨hc,g,q,d⟩;refine⟨hc,g,q,?_⟩
  rwa [show min (max (max ok 1) n) n=n from ω] at d
 case step=>
  rintro k c a M N ⟨rfl,g,q,d⟩;rw[show min k n=k from ω] at d;have hk:lo+k<a₀.size:=ω
  refine wpS_bind (wpS_mono (wpS_forRange (I:=fun x c e=>e=a/\∃l r,c=(none,l,r)/\l<=r/\r<=k/\r-l<=k-x/\
    (∀i,i<l->R ρ (arrOf a) (lo+i)<=R ρ (arrOf a) (lo+k))/\(∀i,r<=i->i<k->R ρ (arrOf a) (lo+k)<R ρ (arrOf a) (lo+i)))
   (Q:=fun c e=>e=a/\∃l r,c=(none,l,r)/\l<=k/\
    (∀i,i<l->R ρ (arrOf a) (lo+i)<=R ρ (arrOf a) (lo+k))/\(∀i,l<=i->i<k->R ρ (arrOf a) (lo+k)<R ρ (arrOf a) (lo+i))) ?istep ?ifin ?iinit) ?ipost)
  case iinit=>exact⟨rfl,0,k,rfl,ω,ω,ω,fun i hi=>ω,fun i h1 h2=>ω⟩
  case ifin=>
   rintro c e ⟨rfl,l,r,rfl,F,v,hm,o,f⟩;have:l=r:=ω
   subst this;exact⟨rfl,l,l,rfl,v,o,f⟩
  case istep=>
   rintro x c e _ O ⟨rfl,l,r,rfl,F,v,hm,o,f⟩;dsimp only
   by_cases u:l ≥ r
   ·rw[if_pos u]
    have:l=r:=ω
    subst this;exact wpS_pure ⟨rfl,l,l,rfl,v,o,f⟩
   ·rw[if_neg u]
    refine wpS_bind (lL C g hk ω ?_)
    by_cases b:R ρ (arrOf e) (lo+k)<R ρ (arrOf e) (lo+(l+r) / 2)
    ·simp only[b,decide_true,if_true]
     refine wpS_pure ⟨rfl,l,(l+r) / 2,rfl,ω,ω,ω,o,fun i h1 h2=>?_⟩;exact Int.lt_of_lt_of_le b (d _ _ ω ω ω)
    ·simp only[b,decide_false,An,if_false]
     refine wpS_pure ⟨rfl,(l+r) / 2+1,r,rfl,ω,ω,ω,fun i h1=>?_,f⟩;exact Int.le_trans (d (lo+i) (lo+(l+r) / 2) ω ω ω) (Int.not_lt.mp b)
  case ipost=>
   rintro c e ⟨rfl,l,r,rfl,P,o,f⟩;show wpS _ _ _ _ (do moveDown' (lo+k) (lo+l);pure (ForInStep.yield (none,()))) _ _;rw[moveDown'_eq];have y:lo+k<(arrOf e).size:=by rw[g.size];exact hk
   refine wpS_bind (wpS_modify (wpS_pure ⟨rfl,g.setArr (bubble_perm _ _ _),q.trans (.bub y ω ω),?_⟩));rw[show min (k+1) n=k+1 from ω];intro i j z p D;show R ρ (bubble (arrOf e) (lo+k) (lo+k-(lo+l))) i<=R ρ (bubble (arrOf e) (lo+k) (lo+k-(lo+l))) j;rw[yA y ω,yA y ω,show lo+k-(lo+k-(lo+l))=lo+l from ω];have G:∀i,lo<=i->i<lo+l->R ρ (arrOf e) i<=R ρ (arrOf e) (lo+k):=fun i h1 h2=>by
    have:=o (i-lo) ω;rwa [show lo+(i-lo)=i from ω] at this
   have H:∀i,lo+l<=i->i<lo+k->R ρ (arrOf e) (lo+k)<R ρ (arrOf e) i:=fun i h1 h2=>by
    have:=f (i-lo) ω ω;rwa [show lo+(i-lo)=i from ω] at this
   repeat' split
   all_goals first
    |(exfalso;omega)
    |exact Int.le_refl _
    |exact G _ ω ω
    |exact Int.le_of_lt (H _ ω ω)
    |exact d _ _ ω ω ω
def Fq(C:fi prog w A s κ a₀ ρ){st:SortSt}{Q:Unit->SortSt->Prop}(G:B κ a₀ st)(hp:pendingOf st=#[])(h1:1<=a₀.size)(u:a₀.size<64)(h:∀a,B κ a₀ a->bH ρ (arrOf a) 0 a₀.size->Q () a):wpS (model prog w) A E s sortRuns' Q st:=by
 rw[sortRuns'_eq];refine wpS_bind (wpS_get ?_);dsimp only;have N:minRun' a₀.size a₀.size 0=a₀.size:=by
  obtain⟨f,hf⟩:∃f,a₀.size=f+1:=⟨a₀.size-1,ω⟩;have:minRun' (f+1) a₀.size 0=a₀.size:=by rw[minRun'_succ,if_pos u];rfl
  rwa [<-hf] at this
 simp only[G.size,N];refine wpS_bind (wpS_mono (wpS_forRange
  (I:=fun x c a=>(x=0/\c=(none,0)/\B κ a₀ a/\pendingOf a=#[])\/(1<=x/\c=(none,a₀.size)/\B κ a₀ a/\(pendingOf a).size<=1/\bH ρ (arrOf a) 0 a₀.size))
  (Q:=fun c a=>c=(none,a₀.size)/\B κ a₀ a/\(pendingOf a).size<=1/\bH ρ (arrOf a) 0 a₀.size) ?step ?fin (.inl ⟨rfl,rfl,G,hp⟩)) ?post)
 case fin=>
  rintro c a (⟨hx,_,_⟩|⟨_,hc,l⟩)
  ·omega
  ·exact⟨hc,l⟩
 case step=>
  rintro x c a _ hx (⟨rfl,rfl,o,z⟩|⟨P,rfl,l⟩)
  ·dsimp only
   rw[if_neg ω];simp only[Nat.sub_zero,Nat.min_self];refine wpS_bind (Fj C ω ω o fun m i v P2 O H j=>?_);dsimp only;have tl:∀d,B κ a₀ d->pendingOf d=#[]->bH ρ (arrOf d) 0 a₀.size->B κ a₀ (setPending d ((pendingOf d).push (0,a₀.size,0)))/\(pendingOf (setPending d ((pendingOf d).push (0,a₀.size,0)))).size<=1/\bH ρ (arrOf (setPending d ((pendingOf d).push (0,a₀.size,0)))) 0 a₀.size:=
    fun d b p q=>⟨⟨b.perm,b.kind,b.failed⟩,by show((pendingOf d).push _).size<=1;rw[p];exact Ag 1,q⟩
   by_cases g:m<a₀.size
   ·rw[if_pos g]
    refine wpS_bind (wpS_lift (wpAny_rule ⟨rfl,?_⟩));refine wpS_bind (Fl C ω H v j fun d J P3 y=>?_);simp only[Bool.not_true,An,if_false];refine wpS_bind (wpS_get ?_);have D:pendingOf d=#[]:=by rw[P3.pend,P2.pend];exact z
    have hb:(pendingOf d).back?=none:=by rw[D];rfl
    rw[hb];dsimp only;simp only[Nat.zero_add] at y ⊢;exact wpS_bind (wpS_modify (wpS_pure (.inr ⟨ω,rfl,tl d J D y⟩)))
   ·rw[if_neg g]
    have hm:m=a₀.size:=ω
    subst hm;refine wpS_bind (wpS_get ?_);have F:pendingOf i=#[]:=by rw[P2.pend];exact z
    have hb:(pendingOf i).back?=none:=by rw[F];rfl
    rw[hb];dsimp only;simp only[Nat.zero_add] at j ⊢;exact wpS_bind (wpS_modify (wpS_pure (.inr ⟨ω,rfl,tl i v F j⟩)))
  ·dsimp only
   rw[if_pos (Ag _)];exact wpS_pure ⟨rfl,l⟩
 case post=>
  rintro c a ⟨rfl,o,r,M⟩;dsimp only;refine wpS_bind (wpS_mono (wpS_forRange (I:=fun _ c e=>e=a/\c=(none,())) (Q:=fun c e=>e=a/\c=(none,())) ?_ (fun _ _ L=>L) ⟨rfl,rfl⟩) ?_)
  ·rintro x c e _ _ ⟨rfl,rfl⟩
   refine wpS_bind (wpS_get ?_);rw[if_pos r];exact wpS_pure ⟨rfl,rfl⟩
  ·rintro c e ⟨rfl,rfl⟩
   exact wpS_pure (h _ o M)
end
end Tim
end
section
namespace bH
open PySem PyProof.Rows HT
def u8:∀a:List Int,lexLt a a=false
 |[]=>rfl
 |x::a=>by rw[zJ,if_pos rfl];exact u8 a
def j8:∀{a b c:List Int},lexLt a b=true->lexLt b c=true->lexLt a c=true
 |[],[],_,h,_=>by cases h
 |[],_::_,[],_,h=>by cases h
 |[],_::_,_::_,_,_=>rfl
 |_::_,[],_,h,_=>by cases h
 |_::_,_::_,[],_,h=>by cases h
 |x::a,y::b,z::c,h1,h2=>by
  rw[zJ] at h1 h2 ⊢
  by_cases e1:x=y
  ·rw[if_pos e1] at h1
   by_cases e2:y=z
   ·rw[if_pos e2] at h2
    rw[if_pos (e1.trans e2)];exact j8 h1 h2
   ·rw[if_neg e2] at h2
    rw[if_neg ω];have:=of_decide_eq_true h2;exact decide_eq_true ω
  ·rw[if_neg e1] at h1
   have d:=of_decide_eq_true h1
   by_cases e2:y=z
   ·rw[if_neg ω]
    exact decide_eq_true ω
   ·rw[if_neg e2] at h2
    have e:=of_decide_eq_true h2;rw[if_neg ω];exact decide_eq_true ω
def yG:∀{a b:List Int},lexLt a b=false->lexLt b a=false->a=b
 |[],[],_,_=>rfl
 |[],_::_,h,_=>by cases h
 |_::_,[],_,h=>by cases h
 |x::a,y::b,h1,h2=>by
  rw[zJ] at h1 h2
  by_cases e:x=y
  ·subst e
   rw[if_pos rfl] at h1 h2;rw[yG h1 h2]
  ·rw[if_neg e] at h1
   rw[if_neg (Ne.symm e)] at h2;have:=of_decide_eq_false h1;have:=of_decide_eq_false h2;omega
def rk(ls:Ξ)(l:List Int):Int:=((ls.filter fun m=>lexLt m l).length:Nat)
def yH{ls:Ξ}{l m:List Int}(f:l∈ls)(hm:m∈ls):decide (rk ls l<rk ls m)=lexLt l m:=by
 have mono:∀{a b:List Int},(∀x,lexLt x a=true->lexLt x b=true)->∀k:Ξ,(k.filter fun x=>lexLt x a).length<=(k.filter fun x=>lexLt x b).length:=by
  intro a b d k
  induction k with
  |nil=>exact Ag _
  |cons x k ih=>
   rw[List.filter_cons,List.filter_cons]
   by_cases q:lexLt x a=true
   ·rw[if_pos q,if_pos (d x q),Ap,Ap];omega
   ·rw[if_neg q]
    split
    ·rw[Ap];omega
    ·exact ih
 have c:∀{a b:List Int},(∀x,lexLt x a=true->lexLt x b=true)->lexLt a b=true->∀k:Ξ,a∈k->(k.filter fun x=>lexLt x a).length<(k.filter fun x=>lexLt x b).length:=by
  intro a b d h k
  induction k with
  |nil=>intro q;cases q
  |cons x k ih=>
   intro hk;rw[List.filter_cons,List.filter_cons];rcases List.mem_cons.mp hk with e|e
   ·subst e
    rw[if_neg (by rw[u8];exact As),if_pos h,Ap];have:=mono d k;omega
   ·have:=ih e
    by_cases q:lexLt x a=true
    ·rw[if_pos q,if_pos (d x q),Ap,Ap];omega
    ·rw[if_neg q]
     split
     ·rw[Ap];omega
     ·exact this
 unfold rk;cases q:lexLt l m with
 |true=>
  have:=c (a:=l) (b:=m) (fun x hx=>j8 hx q) q ls f;exact decide_eq_true ω
 |false=>
  have:=mono (a:=m) (b:=l) (fun x hx=>by
   cases z:lexLt x l with
   |true=>rfl
   |false=>
    cases z2:lexLt l x with
    |true=>rw[j8 z2 hx] at q;cases q
    |false=>rw[yG z z2] at hx;rw[hx] at q;cases q) ls
  exact decide_eq_false ω
structure By(prog:Program)(w:World)(A:Around)(good:Heap->Prop)(us:List Value)(ls:Ξ):Prop where
 len:us.length=ls.length
 fn:∀(i j:Nat) u l m,us[i]?=some u->us[j]?=some u->ls[i]?=some l->ls[j]?=some m->l=m
 ask:2<=us.length->∃κ:SortKind,(∀(s:Shared)(Q:SortKind->Shared->Prop)(E:Ω),good s.heap->Q κ s->wpAny (model prog w) A (keyKind' us.toArray) Q E s)/\
  ∀(i j:Nat) u v l m,us[i]?=some u->us[j]?=some v->ls[i]?=some l->ls[j]?=some m->∀(s:Shared)(Q:Bool->Shared->Prop)(E:Ω),good s.heap->Q (lexLt l m) s->wpAny (model prog w) A (keyLt' κ u v) Q E s
open Classical in
noncomputable def j9(us:List Value)(ls:Ξ)(u:Value):List Int:=if h:∃l,∃i:Nat,us[i]?=some u/\ls[i]?=some l then h.choose else []
def lT{us:List Value}{ls:Ξ}(fn:∀(i j:Nat) u l m,us[i]?=some u->us[j]?=some u->ls[i]?=some l->ls[j]?=some m->l=m){i:Nat}{u:Value}{l:List Int}(h1:us[i]?=some u)(h2:ls[i]?=some l):j9 us ls u=l:=by
 unfold j9;have h:∃l,∃i:Nat,us[i]?=some u/\ls[i]?=some l:=⟨l,i,h1,h2⟩;rw[dif_pos h];obtain⟨j,e1,e2⟩:=h.choose_spec;exact fn j i u _ l e1 h1 e2 h2
noncomputable def j_(us:List Value)(ls:Ξ)(p:Keyed):Int:=rk ls (j9 us ls p.1)
section
variable{prog:Program}{w:World}{A:Around}{E:Ω}{s:Shared}{good:Heap->Prop}{us vs:List Value}{ls:Ξ}
def n'(h:us.length=vs.length){p:Keyed}(hp:p∈(us.toArray.zip vs.toArray).toList):∃i:Nat,us[i]?=some p.1/\vs[i]?=some p.2:=by
 have e:(us.toArray.zip vs.toArray).toList=us.zip vs:=by simp
 rw[e] at hp;obtain⟨i,hi,e2⟩:=List.mem_iff_getElem.mp hp;rw[List.getElem_zip] at e2;rw[List.length_zip] at hi;refine⟨i,?_,?_⟩
 ·rw[Af ω,<-e2]
 ·rw[Af ω,<-e2]
def Fs(B:By prog w A good us ls)(e:us.length=vs.length)(g:good s.heap){κ:SortKind}(h2:2<=us.length)(o:us.length<64)(hk:∀(i j:Nat) u v l m,us[i]?=some u->us[j]?=some v->ls[i]?=some l->ls[j]?=some m->∀(s:Shared)(Q:Bool->Shared->Prop)(E:Ω),good s.heap->Q (lexLt l m) s->wpAny (model prog w) A (keyLt' κ u v) Q E s){Q:Unit->SortSt->Prop}(h:∀a,(arrOf a).Perm (us.toArray.zip vs.toArray)->failedOf a=none->Tim.bH (j_ us ls) (arrOf a) 0 vs.length->Q () a):wpS (model prog w) A E s sortRuns' Q (SortSt.mk' κ (us.toArray.zip vs.toArray) #[] 7 none):=by
 have c:(us.toArray.zip vs.toArray).size=vs.length:=by simp;omega
 refine Tim.Fq (κ:=κ) (a₀:=us.toArray.zip vs.toArray) (ρ:=j_ us ls) ⟨fun x y hx hy p q hq=>?_⟩ ⟨Array.Perm.refl _,rfl,rfl⟩ rfl (by rw[c];omega) (by rw[c];omega) fun a b f=>h a b.perm b.failed (by rw[<-c];exact f);obtain⟨i,e1,_⟩:=n' e hx;obtain⟨j,e2,_⟩:=n' e hy;have hi:i<ls.length:=by rw[<-B.len];exact(List.getElem?_eq_some_iff.mp e1).1
 have d:j<ls.length:=by rw[<-B.len];exact(List.getElem?_eq_some_iff.mp e2).1
 have f1:ls[i]?=some ls[i]:=Af hi;have f2:ls[j]?=some ls[j]:=Af d;refine hk i j _ _ _ _ e1 e2 f1 f2 s p q g ?_;unfold j_ at hq;rw[lT B.fn e1 f1,lT B.fn e2 f2,yH (List.getElem_mem hi) (List.getElem_mem d)] at hq;exact hq
def bM{a b:Type}:∀(l:List a)(m:List b)(i:Nat),(l.zip m)[i]?=(l[i]?).bind fun x=>(m[i]?).map fun y=>(x,y)
 |[],m,i=>by simp
 |x::l,[],i=>by cases h:(x::l)[i]?<;>simp
 |x::l,y::m,0=>rfl
 |x::l,y::m,i+1=>by
  rw[List.zip_cons_cons,List.getElem?_cons_succ,List.getElem?_cons_succ,List.getElem?_cons_succ];exact bM l m i
def Fu(B:By prog w A good us ls)(r:us.length=vs.length){xs:Array Keyed}(hp:xs.Perm (us.toArray.zip vs.toArray))(hs:Tim.bH (j_ us ls) xs 0 vs.length):∃ps:List (List Int×Value),ps.Perm (ls.zip vs)/\xs.toList.map (·.2)=ps.map (·.2)/\ps.Pairwise fun(a b:List Int×Value)=>HT.lexLt b.1 a.1=false:=by
 have f:xs.toList.Perm (us.zip vs):=by
  have:=Array.perm_iff_toList_perm.mp hp
  simpa using this
 refine⟨xs.toList.map fun p=>(j9 us ls p.1,p.2),?_,by rw[AC];rfl,?_⟩
 ·have e:(us.zip vs).map (fun p:Keyed=>(j9 us ls p.1,p.2))=ls.zip vs:=by
   apply List.ext_getElem?;intro i;rw[Ao,bM,bM];cases e1:us[i]? with
   |none=>
    have:ls[i]?=none:=List.getElem?_eq_none (by rw[<-B.len];exact List.getElem?_eq_none_iff.mp e1);rw[this];rfl
   |some u=>
    have hi:i<ls.length:=by rw[<-B.len];exact(List.getElem?_eq_some_iff.mp e1).1
    have f1:ls[i]?=some ls[i]:=Af hi;rw[f1];cases e2:vs[i]? with
    |none=>rfl
    |some v=>
     show some (j9 us ls u,v)=some (ls[i],v);rw[lT B.fn e1 f1]
  rw[<-e];exact f.map _
 ·rw[List.pairwise_map,List.pairwise_iff_getElem]
  intro i j hi o g;have hsz:xs.size=vs.length:=by
   have:=f.length_eq;rw[Au,List.length_zip] at this;omega
  rw[Au] at hi o;have q:=hs i j (AT _) (Nat.le_of_lt g) ω;have s:xs[i]?=some xs[i]:=getElem?_pos xs i hi;have x:xs[j]?=some xs[j]:=getElem?_pos xs j o;rw[Tim.ij s,Tim.ij x] at q;simp only[Array.getElem_toList];obtain⟨h,g1,_⟩:=n' r (p:=xs[i]) (by
   have:=f.mem_iff.mp (show xs[i]∈xs.toList by simp)
   simpa using this)
  obtain⟨l,g2,_⟩:=n' r (p:=xs[j]) (by
   have:=f.mem_iff.mp (show xs[j]∈xs.toList by simp)
   simpa using this)
  have c:h<ls.length:=by rw[<-B.len];exact(List.getElem?_eq_some_iff.mp g1).1
  have d:l<ls.length:=by rw[<-B.len];exact(List.getElem?_eq_some_iff.mp g2).1
  have f1:ls[h]?=some ls[h]:=Af c;have f2:ls[l]?=some ls[l]:=Af d;unfold j_ at q;rw[lT B.fn g1 f1,lT B.fn g2 f2] at q ⊢;have:=yH (ls:=ls) (List.getElem_mem d) (List.getElem_mem c);rw[<-this];exact decide_eq_false ω
end
end bH
end
section
namespace bH
open PySem PyProof.Rows PySem.W
section
variable{prog:Program}{w:World}{A:Around}{E:Ω}{s:Shared}{good:Heap->Prop}{us vs:List Value}{ls:Ξ}
def Fv{ns:List Int}(hi:IntsAre us ns):By prog w A (fun _=>True) us (ns.map fun n=>[n]):=by
 have b:=hi.length;have a:∀(i:Nat) u l,us[i]?=some u->(ns.map fun n=>[n])[i]?=some l->∃n t,u=.int n t/\l=[n]:=fun i u l h1 h2=>by
  obtain⟨t,e⟩:=IntsAre.int_at hi i u h1;rw[Ao] at h2;cases e2:ns[i]? with
  |none=>rw[e2] at h2;cases h2
  |some n=>
   rw[e2] at h2;have e3:ns.getD i 0=n:=by rw[AQ,e2];rfl
   rw[e3] at e;exact⟨n,t,e,(Ai h2).symm⟩
 refine⟨by rw[Ab,b],fun i j u l m h1 h2 d h4=>?_,fun h2=>⟨oneType',fun s Q E _ hq=>?_,fun i j u v l m h1 h2 d h4 s Q E _ hq=>?_⟩⟩
 ·obtain⟨n,t,e1,rfl⟩:=a i u l h1 d
  obtain⟨c,t',e2,rfl⟩:=a j u m h2 h4;rw[e1] at e2;cases e2
  rfl
 ·match us,hi,h2 with
  |[],_,h2=>simp at h2
  |[_],_,h2=>simp at h2
  |v₁::v₂::rest,hi,_=>
   rw[keyKind_ints hi];exact Ac hq
 ·obtain⟨n,t,rfl,rfl⟩:=a i u l h1 d
  obtain⟨c,t',rfl,rfl⟩:=a j v m h2 h4;refine kat_lt_int ?_;have:HT.lexLt [n] [c]=decide (n<c):=by
   rw[HT.zJ]
   by_cases e:n=c
   ·rw[if_pos e,HT.ye];exact(decide_eq_false ω).symm
   ·rw[if_neg e]
  rw[this] at hq;exact hq
def IsPr(h:Heap)(u:Value)(l:List Int):Prop:=∃(a b:Addr)(n:Int)(t:Tok)(c:List Value)(ps:List Int),u=.ref a/\l=n::ps/\IsTup h a #[.int n t,.ref b]/\IsTup h b c.toArray/\IntsAre c ps
def IsTup.inj{h:Heap}{a:Addr}{xs ys:Array Value}(h1:IsTup h a xs)(h2:IsTup h a ys):xs=ys:=by
 obtain⟨o,e,_,n,d⟩:=h1;obtain⟨o',b,_,c,d'⟩:=h2;rw[e] at b;cases b;rw[d] at d';injection d'
def IntsAre.inj{vs:List Value}{ns a:List Int}(h:IntsAre vs ns)(g:IntsAre vs a):ns=a:=by
 induction h generalizing a with
 |nil=>cases g;rfl
 |cons n t h ih=>cases g with|cons _ _ h'=>rw[ih h']
def IsPr.inj{h:Heap}{u:Value}{l m:List Int}(h1:IsPr h u l)(h2:IsPr h u m):l=m:=by
 obtain⟨a,b,n,t,c,ps,rfl,rfl,d,f,i1⟩:=h1;obtain⟨o,p,q,t',its',r,e,rfl,g,i,j⟩:=h2;cases e;have:=bH.IsTup.inj d g;cases this;have e2:=bH.IsTup.inj f i;have e3:c=its':=by simpa using e2
 subst e3;rw[IntsAre.inj i1 j]
def Fx{x y:Value}{l m:List Int}{Q:Bool->Shared->Prop}(h1:IsPr s.heap x l)(h2:IsPr s.heap y m)(hu:A.units<cLine)(hq:Q (HT.lexLt l m) s):wpAny (model prog w) A (keyLt' (tuples' true) x y) Q E s:=by
 obtain⟨a,b,n,t,M,ps,rfl,rfl,H,u,i1⟩:=h1;obtain⟨N,v,g,t',its',C,rfl,rfl,I,D,F⟩:=h2;obtain⟨o,e,hc,k,d⟩:=id H;obtain⟨o',J,L,O,d'⟩:=id I;refine kat_lt e d J d' ?_;show KatLex prog w A true (decide (2<2)) Q [(.int n t,.int g t'),(.ref b,.ref v)] 0 s;rw[HT.zJ] at hq;refine kat_cons (Bd (SeqAt.EqAt.int_int n t g t' prog w (fun _ _=>False) _ ⟨rfl,rfl⟩:wpAny (model prog w) A (eqBool (.int n t) (.int g t')) (fun e s'=>e=(n==g)/\s'=s) (fun _ _=>False) s) (fun e1 j he=>?_) fun _ _ z=>z);obtain⟨rfl,rfl⟩:=he
 by_cases p:n=g
 ·have r:(n==g)=true:=by simpa using p
  rw[r];rw[if_pos p] at hq;refine kat_yes (kat_cons ?_);have G:∀{c:Addr}{cs:List Value}{i:List Int},IsTup j.heap c cs.toArray->IntsAre cs i->AH (L2.zx prog w) j.heap (i.map Sum.inl) c:=fun{c cs i} hc hi=>by
   obtain⟨o,e,q,k,d⟩:=hc;refine⟨o,cs.toArray,k,e,q,d,?_⟩;have:∀{cs:List Value}{i:List Int},IntsAre cs i->ItemsAre (L2.zx prog w) (i.map Sum.inl) cs:=by
    intro cs i hi
    induction hi with
    |nil=>exact .nil
    |cons n t h ih=>exact .cons (L2.rZ prog w n t) ih
   simpa using this hi
  refine wpAny_eqBool_tuple (knd:=L2.zx prog w) hu (G u i1) (G D F) ?_
  by_cases ep:ps=C
  ·subst ep
   rw[decide_eq_true rfl];rw[u8] at hq;exact kat_yes (kat_nil hq)
  ·have:¬(ps.map Sum.inl:List L2.Key)=C.map Sum.inl:=fun z=>ep (List.map_inj_right (f:=(Sum.inl:Int->L2.Key)) (fun x y h=>Sum.inl.inj h)|>.mp z)
   rw[decide_eq_false this];refine kat_no ?_;show wpAny (model prog w) A (oneLt' false (.ref b) (.ref v)) Q (fun _ _=>False) j;exact kat_one _ _ (HT.Ep u D (by simpa using i1) (by simpa using F) hu hq)
 ·have r:(n==g)=false:=by simpa using p
  rw[r];rw[if_neg p] at hq;refine kat_no ?_;show wpAny (model prog w) A (oneLt' true (.int n t) (.int g t')) Q (fun _ _=>False) j;exact oneLt_int hq
def yI{h:Heap}:∀{us:List Value}{ls:Ξ},us.length=ls.length->(∀(i:Nat) u l,us[i]?=some u->ls[i]?=some l->IsPr h u l)->∃fs,KatTups h us fs/\fs.length=us.length/\∀f∈fs,∃n t,f=Value.int n t
 |[],[],_,_=>⟨[],.nil,rfl,fun f hf=>nomatch hf⟩
 |u::us,l::ls,hl,hp=>by
  obtain⟨fs,c,g,j⟩:=yI (us:=us) (ls:=ls) (by simpa using hl) fun i u l h1 h2=>hp (i+1) u l (by simpa using h1) (by simpa using h2);obtain⟨a,b,n,t,q,ps,rfl,rfl,p,r,i1⟩:=hp 0 u l rfl rfl;obtain⟨o,e,hc,k,d⟩:=id p;refine⟨.int n t::fs,.cons e hc d rfl c,by simp[g],fun f hf=>?_⟩;rcases List.mem_cons.mp hf with rfl|hf
  ·exact⟨n,t,rfl⟩
  ·exact j f hf
 |[],_::_,h,_=>by simp at h
 |_::_,[],h,_=>by simp at h
def yJ(d:us.length=ls.length)(hu:A.units<cLine)(o:∃h,good h)(hp:∀h,good h->∀(i:Nat) u l,us[i]?=some u->ls[i]?=some l->IsPr h u l):By prog w A good us ls:=by
 refine⟨d,fun i j u l m h1 h2 b h4=>?_,fun h2=>⟨tuples' true,fun s Q E a hq=>?_,fun i j u v l m h1 h2 b h4 s Q E a hq=>?_⟩⟩
 ·obtain⟨h,c⟩:=o
  exact(hp h c i u l h1 b).inj (hp h c j u m h2 h4)
 ·obtain⟨fs,e,p,g⟩:=yI d (hp _ a)
  refine kat_kind (T:=.type "int") e ω (fun f hf=>?_) ξ hq;obtain⟨n,t,rfl⟩:=g f hf;exact Looks.of_pure rfl
 ·exact Fx (hp _ a i u l h1 b) (hp _ a j v m h2 h4) hu hq
end
def Out(ls:Ξ)(vs c:List Value):Prop:=∃ps:List (List Int×Value),ps.Perm (ls.zip vs)/\c=ps.map (·.2)/\ps.Pairwise fun(a b:List Int×Value)=>HT.lexLt b.1 a.1=false
section
variable{prog:Program}{w:World}{A:Around}{E:Ω}{s:Shared}{good:Heap->Prop}{us vs:List Value}{ls:Ξ}
def Fy(b:ls.length=vs.length)(hu:us.length=vs.length)(h2:vs.length<2):Out ls vs ((us.toArray.zip vs.toArray).map (·.2)).toList:=by
 have e:((us.toArray.zip vs.toArray).map (·.2)).toList=vs:=by
  rw[Array.toList_map,show(us.toArray.zip vs.toArray).toList=us.zip vs by simp,List.map_snd_zip ω]
 rw[e];refine⟨ls.zip vs,List.Perm.refl _,by rw[List.map_snd_zip ω],?_⟩;have a:(ls.zip vs).length<2:=by rw[List.length_zip];omega
 match ls.zip vs,a with
 |[],_=>exact List.Pairwise.nil
 |[x],_=>simp
 |_::_::_,h=>simp only[Ap] at h;omega
def yK(B:By prog w A good us ls)(c:us.length=vs.length)(j:vs.length<64)(i:good s.heap){P:PySem.Fin->Shared->Prop}{G:Unit×SortSt->Sem PySem.Fin}(h:∀a,Out ls vs ((arrOf a).map (·.2)).toList->(arrOf a).size=vs.length->failedOf a=none->wpAny (model prog w) A (G (PUnit.unit,a)) P E s):wpAny (model prog w) A (if vs.toArray.size<2 then(pure general' >>= fun kind=>(if vs.toArray.size<2 then pure () else sortRuns').run (SortSt.mk' kind (us.toArray.zip vs.toArray) #[] 7 none) >>= G)
   else(keyKind' us.toArray >>= fun kind=>(if vs.toArray.size<2 then pure () else sortRuns').run (SortSt.mk' kind (us.toArray.zip vs.toArray) #[] 7 none) >>= G)) P E s:=by
 have b:(us.toArray.zip vs.toArray).size=vs.length:=by rw[Array.size_zip,Aj,Aj];omega
 by_cases h2:vs.toArray.size<2
 ·rw[if_pos h2]
  refine Aa (Ac ?_);rw[if_pos h2];rw[StateT.run_pure];refine Aa (Ac ?_)
  try dsimp only
  rw[Aj] at h2;exact h (SortSt.mk' general' (us.toArray.zip vs.toArray) #[] 7 none) (Fy (by rw[<-B.len];exact c) c h2) b rfl
 ·rw[if_neg h2,if_neg h2]
  rw[Aj] at h2;obtain⟨κ,k1,k2⟩:=B.ask ω;refine Aa (k1 s _ E i ?_);refine Aa (Bd (Fs (Q:=fun _ a=>(arrOf a).Perm (us.toArray.zip vs.toArray)/\failedOf a=none/\Tim.bH (j_ us ls) (arrOf a) 0 vs.length) B c i ω ω k2 fun a d f g=>⟨d,f,g⟩) ?_ fun _ _ e=>e);rintro⟨⟨⟩,a⟩ s' ⟨rfl,hp,hf,hs⟩
  try dsimp only
  exact h a (by
   obtain⟨ps,d,f,g⟩:=Fu B c hp hs;exact⟨ps,d,by rw[Array.toList_map];exact f,g⟩) (by rw[hp.size_eq];exact b) hf
def Fz{a:Addr}{n:Nat}{P:PySem.Fin->Shared->Prop}(c:s.heap.get? a=some (seqObj "list" vs.toArray n))(B:By prog w A good vs ls)(p:∀h',(∀b o,b≠a->s.heap.get? b=some o->h'.get? b=some o)->good h')(d:vs.length<=sizeLine)(f:vs.length<64)(h:∀g:Array Value,Out ls vs g.toList->P (.done (.ret .none)) {s with heap:=sortedHeap s.heap a vs g}):wpAny (model prog w) A (Builtin.«list.sort» ⟨[.ref a],[]⟩) P E s:=by
 rw[list_sort_plain];have j:a<s⁻¹:=Ah c;refine Aa (listItems_at c rfl ?_);refine Aa (listUpdate_at c rfl ?_ (by rw[Aj];exact d) (AT _));obtain⟨e1,i⟩:∃e1,(s.heap.update a (AG fun _=>#[])).get? a=some (seqObj "list" #[] e1):=⟨_,get?_update_seq c (fun _=>#[])⟩;refine Aa (seqEpoch_at i rfl ?_);refine Aa (wpAny_newTuple ?_ (by show vs.length<=_;exact d));refine Aa (wpAny_newList ?_ (AT _));refine AU ?_;have l:(((s.heap.update a (AG fun _=>#[])).push (seqObj "tuple" vs.toArray 0)).push (seqObj "list" #[] 0)).get? a=some (seqObj "list" #[] e1):=by
  rw[Heap.get?_push_ne _ _ _ (by rw[size_push',AO];exact Ar (Bc j)),Heap.get?_push_ne _ _ _ (by rw[AO];exact Ar j)];exact i
 show wpAny (model prog w) A _ P E {s with heap:=((s.heap.update a (AG fun _=>#[])).push (seqObj "tuple" vs.toArray 0)).push (seqObj "list" #[] 0)};dsimp only;refine yK (s:={s with heap:=((s.heap.update a (AG fun _=>#[])).push (seqObj "tuple" vs.toArray 0)).push (seqObj "list" #[] 0)}) B rfl f (p _ fun b o hb e=>Ad _ (Ad _ (by rw[Heap.get?_update_ne _ _ _ _ hb];exact e))) fun q c hsz hf=>?_;dsimp only;refine Aa (seqEpoch_at l rfl ?_);refine Aa (listUpdate_at l rfl ?_ (AT _) (AA (Nat.le_of_eq ((Array.size_map ..).trans hsz)) (Nat.le_succ_of_le d)));rw[hf];simp only[bne_self_eq_false,An,if_false];exact Ac (h _ c)
def yL{l:Addr}{Q:Ω}(i:s.heap.IsList l vs.toArray)(B:By prog w A.in1.in1 good vs ls)(j:∀h',(∀b o,s.heap.get? b=some o->h'.get? b=some o)->good h')(e:vs.length<=sizeLine)(f:vs.length<64)(h:∀d:Array Value,Out ls vs d.toList->Q (.ref (s⁻¹+1)) {s with heap:=sortedAll s.heap vs d}):wpAny (model prog w) A (call (.builtin "sorted") [.ref l]) Q E s:=by
 refine Calls.call_function_entry kind_sorted plain_sorted entry_sorted (args_sorted1 _) ?_;unfold Builtin.«sorted»;refine Aa (m:=checkCount "sorted" 1 1 _) (Ac ?_);refine Aa (collect_list i ?_ e);refine Aa (wpAny_newList ?_ e);have hsz:((s.heap.push (seqObj "list" #[] 0)).update s⁻¹ (AG (·++vs.toArray))).objs.size=s⁻¹+1:=by
  rw[AO,size_push']
 have c:(((s.heap.push (seqObj "list" #[] 0)).update s⁻¹ (AG (·++vs.toArray))).push (seqObj "list" vs.toArray 0)).get? (s⁻¹+1)=some (seqObj "list" vs.toArray 0):=by
  rw[<-hsz];exact Ax _ rfl
 have keep:∀b o,s.heap.get? b=some o->(((s.heap.push (seqObj "list" #[] 0)).update s⁻¹ (AG (·++vs.toArray))).push (seqObj "list" vs.toArray 0)).get? b=some o:=fun b o q=>by
  have a:b<s⁻¹:=Ah q;rw[Heap.get?_push_ne _ _ _ (by rw[hsz];exact Ar (Bc a)),Heap.get?_update_ne _ _ _ _ (Ar a),Heap.get?_push_ne _ _ _ (Ar a)];exact q
 show wpAny _ _ _ _ _ {s with heap:=((s.heap.push (seqObj "list" #[] 0)).update s⁻¹ (AG (·++vs.toArray))).push (seqObj "list" vs.toArray 0)};rw[hsz];refine Aa (AU (A3 slot_list_sort ⟨_,c,rfl⟩ entry_list_sort (Fz (s:={s with heap:=((s.heap.push (seqObj "list" #[] 0)).update s⁻¹ (AG (·++vs.toArray))).push (seqObj "list" vs.toArray 0)}) c B (fun h' hk=>j h' fun b o q=>hk b o (Ar (Bc (Ah q))) (keep b o q)) e f fun d g=>⟨_,rfl,?_⟩) (args_list_sort _)));exact Ac ⟨_,rfl,h d g⟩
def FB{a kS:Addr}{keys:Array Value}{e e1:Nat}{st:SortSt}{P:PySem.Fin->Shared->Prop}(p:s.heap.get? kS=some (seqObj "list" keys e))(v:s.heap.get? a=some (seqObj "list" #[] e1))(r:kS≠a)(x:keys.size<=sizeLine)(y:Out ls vs ((arrOf st).map (·.2)).toList)(hsz:(arrOf st).size=vs.length)(z:vs.length<=sizeLine)(g:failedOf st=none)(h:∀h' i c,(∀b o,b≠kS->b≠a->s.heap.get? b=some o->h'.get? b=some o)->h'.get? a=some (seqObj "list" i c)->(∃o,h'.get? kS=some o)->Out ls vs i.toList->h'.objs.size=s⁻¹->P (.done (.ret .none)) {s with heap:=h'}):wpAny (model prog w) A (ksk_tail a false e1 (.ref kS) st) P E s:=by
 have j:=A1 s.heap kS (AG fun _=>(#[]:Array Value));have f:(s.heap.update kS (AG fun _=>(#[]:Array Value))).get? a=some (seqObj "list" #[] e1):=(j.2 a r.symm).trans v;have l:=A1 (s.heap.update kS (AG fun _=>(#[]:Array Value))) a (AG fun _=>(arrOf st).map (·.2));obtain⟨d,u⟩:∃d,((s.heap.update kS (AG fun _=>(#[]:Array Value))).update a (AG fun _=>(arrOf st).map (·.2))).get? a=some (seqObj "list" ((arrOf st).map (·.2)) d):=
  ⟨_,get?_update_seq f fun _=>(arrOf st).map (·.2)⟩
 unfold ksk_tail
 try dsimp only
 simp only[An,if_false];refine Aa (listUpdate_at p rfl ?_ x (AT _));refine Aa (wpAny_letGo ?_);refine Aa (seqEpoch_at f rfl ?_);refine Aa (listUpdate_at f rfl ?_ (AT _) (AA (Nat.le_of_eq ((Array.size_map ..).trans hsz)) (Nat.le_succ_of_le z)));rw[g];simp only[bne_self_eq_false,An,if_false];refine Ac (h _ _ d (fun b o h1 h2 q=>(l.2 b h2).trans ((j.2 b h1).trans q)) u ⟨_,(l.2 kS r).trans (get?_update_seq p fun _=>#[])⟩ y (by rw[AO,AO]))
end
end bH
end
section
namespace L2
open PySem PySem.Spec PyProof.Rows
def clOf(cells:List (Str×Addr)):List (Str×NameKind)->List (Str×Addr)->List (Str×Addr)
 |[],acc=>acc
 |(n,k)::r,acc=>if(k==.free)=true then clOf cells r ((n,(cells.lookup n).getD 0)::acc) else clOf cells r acc
def yM{env:Env}:∀(names:List (Str×NameKind))(acc:List (Str×Addr)),(∀x∈names,x.2=.free->∃c,env.cells.lookup x.1=some c)-> (forIn names acc fun x(r:List (Str×Addr))=>if(x.2==.free)=true then do let c <-cellOf env x.1;pure (ForInStep.yield ((x.1,c)::r)) else pure (ForInStep.yield r):Sem (List (Str×Addr)))=pure (clOf env.cells names acc)
 |[],acc,_=>rfl
 |(n,k)::r,acc,h=>by
  rw[List.forIn_cons];have b:=fun a=>yM (env:=env) r a fun x hx=>h x (Av _ hx);unfold clOf
  by_cases hk:(k==NameKind.free)=true
  ·have hk':k=.free:=by cases k<;>first|rfl|cases hk
   obtain⟨c,hc⟩:=h (n,k) Am hk';simp only[hk,if_true];unfold cellOf;rw[hc];simp only[pure_bind,Option.getD_some];exact b _
  ·simp only[hk,An,if_false,pure_bind]
   exact b _
def yN{scope:Scope}{env:Env}(h:∀x∈scope.names,x.2=.free->∃c,env.cells.lookup x.1=some c):closureFor scope env=pure (clOf env.cells scope.names []):=by
 rw[<-yM scope.names [] h];unfold closureFor;simp
def og{cells:List (Str×Addr)}{x:Str}{c:Addr}:∀{names:List (Str×NameKind)}{acc:List (Str×Addr)},(∀y∈names,y.2=.free->∃d,cells.lookup y.1=some d)->(∀p∈acc,cells.lookup p.1=some p.2)->(clOf cells names acc).lookup x=some c->cells.lookup x=some c
 |[],acc,_,ha,h=>ha (x,c) (PySem.mem_of_lookup h)
 |(n,k)::r,acc,hn,ha,h=>by
  unfold clOf at h;have b:∀y∈r,y.2=.free->∃d,cells.lookup y.1=some d:=fun y hy=>hn y (Av _ hy)
  by_cases hk:(k==NameKind.free)=true
  ·have hk':k=.free:=by cases k<;>first|rfl|cases hk
   obtain⟨d,hd⟩:=hn (n,k) Am hk';rw[if_pos hk] at h;refine og b (fun p hp=>?_) h;rcases List.mem_cons.mp hp with rfl|hp
   ·show cells.lookup n=some ((cells.lookup n).getD 0)
    have a:cells.lookup n=some d:=hd;rw[a];rfl
   ·exact ha p hp
  ·rw[if_neg hk] at h
   exact og b ha h
def zF{x:Str}{c:Addr}:∀{l:List (Str×Addr)},(x,c)∈l->∃d,l.lookup x=some d
 |[],h=>nomatch h
 |(y,d)::l,h=>by
  rw[Ba]
  by_cases e:x=y
  ·subst e;exact⟨d,by simp⟩
  ·have hb:(x==y)=false:=by simpa using e
   rw[hb];rcases List.mem_cons.mp h with q|q
   ·cases q;exact absurd rfl e
   ·exact zF q
def j'{cells:List (Str×Addr)}{x:Str}:∀{names:List (Str×NameKind)}{acc:List (Str×Addr)},((x,NameKind.free)∈names\/∃c,(x,c)∈acc)->∃c,(x,c)∈clOf cells names acc
 |[],acc,h=>h.elim (fun q=>nomatch q) id
 |(n,k)::r,acc,h=>by
  unfold clOf
  by_cases hk:(k==NameKind.free)=true
  ·rw[if_pos hk]
   refine j' ?_;rcases h with h|⟨c,h⟩
   ·rcases List.mem_cons.mp h with q|q
    ·cases q;exact .inr ⟨_,Am⟩
    ·exact .inl q
   ·exact .inr ⟨c,Av _ h⟩
  ·rw[if_neg hk]
   refine j' ?_;rcases h with h|h
   ·rcases List.mem_cons.mp h with q|q
    ·cases q;exact absurd rfl hk
    ·exact .inl q
   ·exact .inr h
def cxC(X:Cx)(scope:Scope)(N:List Str)(a:List (Str×Addr))(C:Addr)(s₀:Shared)(H₀:Hp)(ex:List Addr):Cx where
 prog:=X.prog
 w:=X.w
 K:=X.K
 mg:=X.mg
 base:=X.base
 A:=X.A
 N:=N
 s₀:=s₀
 H₀:=H₀
 env:=compEnvC scope a C X.env
 outer:=X.stack
 stack:=X.stack
 ex:=ex
 fn:=fun _=>false
 calm:=X.calm
 pn:=X.pn
 xe:=fun _ _=>False
def gR(X:Cx)(bq:List Expr)(t:TT):Prop:=
 ∀(aa:Ψ)(s:Shared)(σ:St)(H:Hp)(Q:Bool->Hp->Prop),Inv X aa σ H s->t σ H Q->
  wpAny (model X.prog X.w) X.A (forIn bq true fun c r=>if r=true then do let ok <-isTrue c X.env (eval c X.env);pure (ForInStep.yield ok) else pure (ForInStep.yield r)) (TP X aa σ Q) X.xe s
def bZ:TT:=fun _ H Q=>Q true H
def zL{X:Cx}:gR X [] bZ:=fun _ _ _ H _ I h=>wpAny_tests_nil ⟨H,I,h⟩
def oh{X:Cx}{c:Expr}{t:TT}(h:PT X c t):gR X [c] t:=fun aa s σ H Q I hw=>wpAny_tests_one (h aa s σ H Q I hw)
def ik(av:List (Option Nat))(σ:St):St:=av.map fun c=>match c with
 |none=>none
 |some j=>(σ[j]?).getD none
def cF(J:It)(g:TG)(tc:TT)(te:TE)(σ:St)(H1:Hp)(D:Addr)(Q:VK):Prop:=
 ∃W:Nat->Nat->St->Hp->Prop,(∃m,W 0 m σ (upd H1 D (.lst [])))/\
 ∀i m d H2,W i m d H2->(J.stop i H2/\Q (.ref D) H2)\/(J.go i H2/\∀x h,J.yld i H2 x h->g x d h fun c j=>tc c j fun b e=>
  if b=true then te c e fun y f=>∃ys a,f D=some (.lst ys)/\ys.length<sizeLine/\a<m/\W (i+1) a c (upd f D (.lst (ys++[y])))
  else ∃a,a<m/\W (i+1) a c e)
def ka(wi:TI)(av:List (Option Nat))(g:TG)(tc:TT)(te:TE):TE:=fun σ H Q=>wi σ H fun J H1=>∀D,H1 D=none->cF J g tc te (ik av σ) H1 D Q
def lU(N N':List Str)(av:List (Option Nat))(scope:Scope):Prop:=
 av.length=N'.length/\∀i j:Nat,av[i]?=some (some j)->∃x:Str,N'[i]?=some x/\N[j]?=some x/\scope.names.lookup x=some .free
section
variable{X:Cx}{scope:Scope}{N':List Str}{av:List (Option Nat)}{tg iter bP:Expr}{bq:List Expr}{wi:TI}{g:TG}{tc:TT}{te:TE}{pos:Pos}
def ve{scope:Scope}{env:Env}{x:Str}:∀{names:List (Str×NameKind)},(names.lookup x=some .free\/names.lookup x=some .cell)-> ((names.map fun(n,k)=>if(k==NameKind.free&&env.scope.kind==.function&&env.kindOf n==some .cell) then(n,NameKind.cell) else(n,k)).lookup x=some .free \/
   (names.map fun(n,k)=>if(k==NameKind.free&&env.scope.kind==.function&&env.kindOf n==some .cell) then(n,NameKind.cell) else(n,k)).lookup x=some .cell)
 |[],h=>by simp at h
 |(n,k)::r,h=>by
  have a:=@ve scope env x r;show List.lookup x ((if(k==NameKind.free&&env.scope.kind==.function&&env.kindOf n==some .cell)=true then(n,NameKind.cell) else(n,k))::_)=_\/List.lookup x ((if(k==NameKind.free&&env.scope.kind==.function&&env.kindOf n==some .cell)=true then(n,NameKind.cell) else(n,k))::_)=_;cases hx:x==n with
  |true=>
   simp only[Ba,hx] at h
   by_cases hc:(k==NameKind.free&&env.scope.kind==.function&&env.kindOf n==some .cell)=true
   ·rw[if_pos hc];simp[Ba,hx]
   ·rw[if_neg hc];simp only[Ba,hx];exact h
  |false=>
   simp only[Ba,hx] at h
   by_cases hc:(k==NameKind.free&&env.scope.kind==.function&&env.kindOf n==some .cell)=true
   ·rw[if_pos hc];simp only[Ba,hx];exact a h
   ·rw[if_neg hc];simp only[Ba,hx];exact a h
def lW{env:Env}{x:Str}{a:NameKind}:∀{names:List (Str×NameKind)},(names.map fun(n,k)=>if(k==NameKind.free&&env.scope.kind==.function&&env.kindOf n==some .cell) then(n,NameKind.cell) else(n,k)).lookup x=some a->
  ∃b,names.lookup x=some b/\(a=b\/(b=.free/\a=.cell))
 |[],h=>by simp at h
 |(n,k)::r,h=>by
  have c:=@lW env x a r;have h':List.lookup x ((if(k==NameKind.free&&env.scope.kind==.function&&env.kindOf n==some .cell)=true then(n,NameKind.cell) else(n,k))::_)=some a:=h;cases hx:x==n with
  |true=>
   simp only[Ba,hx]
   by_cases hc:(k==NameKind.free&&env.scope.kind==.function&&env.kindOf n==some .cell)=true
   ·rw[if_pos hc] at h'
    simp only[Ba,hx] at h';cases h';have hk:k=.free:=by
     rw[AB,AB] at hc;cases k<;>first|rfl|exact absurd hc.1.1 ξ
    exact⟨k,rfl,.inr ⟨hk,rfl⟩⟩
   ·rw[if_neg hc] at h'
    simp only[Ba,hx] at h';cases h';exact⟨_,rfl,.inl rfl⟩
  |false=>
   simp only[Ba,hx]
   by_cases hc:(k==NameKind.free&&env.scope.kind==.function&&env.kindOf n==some .cell)=true
   ·rw[if_pos hc] at h';simp only[Ba,hx] at h';exact c h'
   ·rw[if_neg hc] at h';simp only[Ba,hx] at h';exact c h'
structure Left(X:Cx)(aa:Ψ)(σ:St)(H':Hp)(s4:Shared)(C:Addr):Prop where
 ns:∃m,s4.heap.Ns C m
 far:X.s₀⁻¹<=C
 nl:C≠X.env.locals
 nc:∀x c,X.env.cells.lookup x=some c->c≠C
 np:∀p∈X.pn++aa,p.1≠C
 no:H' C=none
 back:∀h',AR C s4.heap h'->Inv X aa σ H' {s4 with heap:=h'}
def FC{use:Option (Value->Sem Unit)}{R:Ω}{pp:Pos}(hc:X.calm=true)(hk:scope.kind=.function)(aC:∀y∈scope.names,y.2≠.cell)(aF:∀y∈scope.names,y.2=.local->scope.names.lookup y.1=some .local)(hfr:∀y∈scope.names,y.2=.free->X.env.kindOf y.1=some .cell\/X.env.kindOf y.1=some .free)(bg:lU X.N N' av scope)(hi:PI X tg iter wi)(hg:∀cl C s₀ H₀ ex,PG (cxC X scope N' cl C s₀ H₀ ex) tg g)(ht:∀cl C s₀ H₀ ex,gR (cxC X scope N' cl C s₀ H₀ ex) bq tc)(he:∀cl C s₀ H₀ ex,PE (cxC X scope N' cl C s₀ H₀ ex) bP te)(hs:∀x,foldedSetIterable iter X.env x=pure x){aa:Ψ}{s:Shared}{σ:St}{H:Hp}{Q:VK}(I:Inv X aa σ H s)(h:ka wi av g tc te σ H Q)(fin:∀(D C:Addr)(H':Hp)(O:Shared)(f:Flow),Left X aa σ H' O C->Q (.ref D) H'->compPost (model X.prog X.w) X.A X.xe use R (.ref D) C (.ok f) O):wpAny (model X.prog X.w) X.A (comprehension (.ListComp bP [⟨tg,iter,bq,0⟩] scope pos) scope X.env pp (newList []) (firstAsync [⟨tg,iter,bq,0⟩]) (firstIter [⟨tg,iter,bq,0⟩] X.env) use) R X.xe s:=by
 have hcl:∀y∈scope.names,y.2=.free->∃c,X.env.cells.lookup y.1=some c:=fun y hy e=>I.ok.has y.1 (hfr y hy e);refine wpAny_comprehension_free (use:=use) rfl hs (yN hcl) hk aF ?_;refine aR (hi aa s σ H _ I h) fun xv s1 h1=>aR h1 fun kf M h2=>?_;obtain⟨it,fp,tn,J,H2,e,I2,T,c7,f2,q⟩:=h2;subst e;have fv:H2 M⁻¹=none:=I2.hok.fresh (Ag _);obtain⟨W,⟨m0,w0⟩,turn⟩:=q M⁻¹ fv;refine AS (wpAny_newFunctionEnv aC (by intro y hy;simp at hy) (fun aq aS aT=>?_) hk);dsimp only at aS aT ⊢;generalize hD:M⁻¹=D at *;obtain⟨l,e3⟩:∃l:Shared,l={M with heap:=M.heap.push {cls:=.type "list",dict:=none,data:=.seq ([]:List Value).toArray}}:=⟨_,rfl⟩;have h3:l.heap=M.heap.push {cls:=.type "list",dict:=none,data:=.seq ([]:List Value).toArray}:=by rw[e3]
 rw[<-h3] at aS aT ⊢;have ai:l⁻¹=D+1:=by rw[h3,Heap.size_push,hD]
 have I3:Inv X aa σ (upd H2 D (.lst [])) l:=by
  rw[e3,<-hD];exact I2.lnew (t':=M.toks) (ys:=[]) .nil (AT _)
 obtain⟨Xc,E⟩:∃Xc,Xc=cxC X scope N' (clOf X.env.cells scope.names []) l⁻¹ l (upd H2 D (.lst [])) fp:=⟨_,rfl⟩;have jl:PG Xc tg g:=by rw[E];exact hg _ _ _ _ _
 have ht':gR Xc bq tc:=by rw[E];exact ht _ _ _ _ _
 have he':PE Xc bP te:=by rw[E];exact he _ _ _ _ _
 have xP:Xc.prog=X.prog:=by rw[E];rfl
 have xw:Xc.w=X.w:=by rw[E];rfl
 have xK:Xc.K=X.K:=by rw[E];rfl
 have xA:Xc.A=X.A:=by rw[E];rfl
 have xc:Xc.calm=true:=by rw[E];exact hc
 have xe:Xc.env=compEnvC scope (clOf X.env.cells scope.names []) l⁻¹ X.env:=by rw[E];rfl
 have xE:Xc.xe=fun _ _=>False:=by rw[E];rfl
 have F:∀x c,(clOf X.env.cells scope.names []).lookup x=some c->X.env.cells.lookup x=some c:=fun x c e=>og hcl (fun p hp=>absurd hp (by simp)) e;have gN:∀b∈fp,b≠D/\b<D:=fun b hb=>by
  obtain⟨ob,eb,_⟩:=T.obj 0 _ c7 b hb;have:=Ah eb;rw[hD] at this;exact⟨Ar this,this⟩
 have hfs:∀b∈frs X.stack,b<D:=fun b hb=>by
  obtain⟨_,ob,eb,_⟩:=I2.stack.mem hb;have:=Ah eb;rw[hD] at this;exact this
 have G:∀b o,l.heap.get? b=some o->aq.get? b=some o:=fun b o e=>by
  have hb:b≠l⁻¹:=Ar (Ah e);exact(aT.2 b hb).trans (Ad _ e)
 have hCf:(upd H2 D (.lst [])) l⁻¹=none:=I3.hok.fresh (Ag _);have Ic:Inv Xc aa (ik av σ) (upd H2 D (.lst [])) {l with heap:=aq}:=by
  have okc:Xc.Ok:=by
   rw[E];refine⟨I.ok.mod,hk,I.ok.glob,I.ok.blt,Ag _,fun x y c a b=>I.ok.inj x y c (F x c a) (F y c b),fun x hx=>?_,(fun x c a=>absurd a As),I.ok.hd,I.ok.frames,.inl rfl,fun b hb=>⟨?_,fun x c e=>?_⟩,fun b o e=>?_,?_,fun b o e z=>?_,fun b hb z=>?_,?_,fun b hb=>?_⟩
   ·have dq:(relabel scope X.env).names.lookup x=some .cell\/(relabel scope X.env).names.lookup x=some .free:=hx
    have key:∃U,scope.names.lookup x=some U/\(U=.free\/U=.cell):=by
     rcases dq with q|q
     ·obtain⟨U,e1,e2⟩:=lW q
      rcases e2 with e2|⟨e2,_⟩
      ·exact⟨U,e1,.inr e2.symm⟩
      ·exact⟨U,e1,.inl e2⟩
     ·obtain⟨U,e1,e2⟩:=lW q
      rcases e2 with e2|⟨e2,_⟩
      ·exact⟨U,e1,.inl e2.symm⟩
      ·exact⟨U,e1,.inl e2⟩
    obtain⟨U,e1,e2⟩:=key;have hm:=PySem.mem_of_lookup e1;rcases e2 with rfl|rfl
    ·obtain⟨c,hc'⟩:=j' (cells:=X.env.cells) (acc:=[]) (.inl hm)
     exact zF hc'
    ·exact absurd rfl (aC _ hm)
   ·show b≠l⁻¹
    exact Ar (by rw[ai];exact Bc (gN b hb).2)
   ·exact(f2 b hb).2.2.2.2.1 x c (F x c e)
   ·exact I3.bs b o e
   ·exact AA I.ok.bsz I3.sz
   ·obtain⟨f,_,_,fx,_,_⟩:=f2 b z
    rcases fx with fx|fx
    ·exact I.ok.noex b o e fx
    ·have:=Az (Ah e) I.ok.bsz
     omega
   ·rcases List.mem_cons.mp (I2.stkSub b z) with r|r
    ·exact(f2 b hb).2.1 r
    ·exact(f2 b hb).2.2.1 r
   ·exact I3.stack
   ·exact I3.stkFree b hb
  refine⟨okc,(by rw[E];rfl),I3.bare,?_,?_,fun x c e=>?_,?_,fun x c e=>?_,fun p hp=>?_,?_,?_⟩
  ·rw[E]
   exact Un.kept G
  ·rw[xe]
   refine⟨_,aS,fun i x v e1 e2 e3=>?_⟩;obtain⟨c1,c2⟩:=bg;unfold ik at e2;rw[Ao] at e2;cases e4:av[i]? with
   |none=>rw[e4] at e2;cases e2
   |some cc=>
    rw[e4] at e2;cases cc with
    |none=>cases e2
    |some j=>
     obtain⟨y,d1,d2,d3⟩:=c2 i j e4;have cm:N'[i]?=some x:=by rw[E] at e1;exact e1
     rw[d1] at cm;have ld:y=x:=Ai cm;subst ld;have e5:σ[j]?=some (some v):=by
      simp only[A7,Option.some.injEq] at e2;cases e6:σ[j]? with
      |none=>rw[e6] at e2;cases e2
      |some ov=>rw[e6] at e2;simp only[Option.getD_some] at e2;rw[e2]
     have hm:=PySem.mem_of_lookup d3;have lu:jB X.env.scope y:=by
      rcases hfr _ hm rfl with q|q
      ·exact .inr (.inl q)
      ·exact .inr (.inr q)
     obtain⟨m,_,hl⟩:=I3.loc;obtain⟨u,ru,lk⟩:=hl j y v d2 e5 lu;refine⟨u,ru,?_⟩;have mE:∃c,X.env.cells.lookup y=some c/\l.heap.IsCell c (some u):=by
      rcases lk with ⟨k1,_⟩|⟨_,c,k2,k3⟩
      ·rcases hfr _ hm rfl with q|q
       ·rw[k1] at q;cases q
       ·rw[k1] at q;cases q
      ·exact⟨c,k2,k3⟩
     obtain⟨c,k2,k3⟩:=mE;obtain⟨d,hd'⟩:=j' (cells:=X.env.cells) (acc:=[]) (.inl hm);obtain⟨d',aO⟩:=zF hd';have:c=d':=by
      have:=F y d' aO;rw[k2] at this;exact Ai this
     subst this;refine .inr ⟨?_,c,aO,k3.keeps G⟩;have rl:=ve (scope:=scope) (env:=X.env) (x:=y) (names:=scope.names) (.inl d3);rcases rl with q|q
     ·exact .inr q
     ·exact .inl q
  ·rw[xe] at e
   obtain⟨v,k3⟩:=I3.cell x c (F x c e);exact⟨v,k3.keeps G⟩
  ·rw[xe];exact hCf
  ·rw[xe] at e
   exact I3.freeC x c (F x c e)
  ·have bN:p∈X.pn++aa:=by rw[E] at hp;exact hp
   obtain⟨a1,a2,a3,a4,a5⟩:=I3.pin p bN;refine⟨G _ _ a1,a2,?_,?_,a5⟩
   ·rw[xe]
    show p.1≠l⁻¹;exact Ar (Ah a1)
   ·rw[E]
    intro z;rcases List.mem_cons.mp (I3.stkSub p.1 z) with r|r
    ·exact a3 r
    ·exact a4 r
  ·rw[xP,xw]
   exact I3.hok.kept G
  ·unfold ik
   rw[Ab,bg.1,E]
   rfl
 have leave:∀{L:St}{H':Hp}{O:Shared}{h':Heap},Inv Xc aa L H' O->AR l⁻¹ O.heap h'->Inv X aa σ H' {O with heap:=h'}:=fun{L H' O h'} I4 P=>by
  have Y:∀b o,M.heap.get? b=some o->b≠D/\b≠l⁻¹:=fun b o e=>by
   have hb:=Ah e;rw[hD] at hb;exact⟨Ar hb,Ar (by rw[ai];exact Bc hb)⟩
  have Z:∀b o,M.heap.get? b=some o->l.heap.get? b=some o:=fun b o e=>by rw[h3];exact Ad _ e
  have base:Un (frs X.stack) fp (upd H2 D (.lst [])) H' l.heap O.heap:=by
   have:=I4.base;rw[E] at this;exact this
  have hCn:H' l⁻¹=none:=by
   have:=I4.free;rw[xe] at this;exact this
  have os4:O.os=M.os:=by
   have:=I4.os;rw[E] at this;rw[this];show l.os=M.os;rw[e3]
  refine I2.call' (s':={O with heap:=h'}) (ch:=fp) os4 ⟨fun b o q n hb hx=>?_,fun b o q n hb hx=>?_,fun b o q n hx=>?_,fun b o q hx=>?_,fun b xs q=>?_,fun b o u q=>?_,fun b ps q=>?_⟩ ?_ I4.bare fun b hb=>?_
  ·obtain⟨n1,n2⟩:=Y b o q
   exact(P.2 b n2).trans (base.keep b o (Z b o q) (by rw[zh n1];exact n) hb hx)
  ·obtain⟨n1,n2⟩:=Y b o q
   obtain⟨sl,e⟩:=base.slot b o (Z b o q) (by rw[zh n1];exact n) hb hx;exact⟨sl,(P.2 b n2).trans e⟩
  ·obtain⟨n1,n2⟩:=Y b o q
   exact base.free b o (Z b o q) (by rw[zh n1];exact n) hx
  ·obtain⟨n1,n2⟩:=Y b o q
   obtain⟨o',e⟩:=base.there b o (Z b o q) hx;exact⟨o',(P.2 b n2).trans e⟩
  ·exact base.tups b xs (by rw[zh (zg q fv)];exact q)
  ·exact base.frzs b o u (by rw[zh (zg q fv)];exact q)
  ·exact base.tbls b ps (by rw[zh (zg q fv)];exact q)
  ·intro b u e
   have fZ:=I4.hok b u e;rw[xP,xw] at fZ;refine fZ.stay (fun c v hc q=>(P.2 c ?_).trans q) (fun _ q=>q) fun _ _ q=>q;rintro rfl;rcases hc with z|z
   ·rw[<-z,hCn] at e;cases e
   ·rw[hCn] at z;cases z
  ·obtain⟨f0,f1,f3,f4,f5,f6⟩:=f2 b hb
   exact⟨f4,f1,f5,f6⟩
 have S:∀{H':Hp},(∀b∈fp,H' b=none)->∀b∈fp,bF Xc aa H' b:=fun{H'} hn b hb=>by
  obtain⟨f0,f1,f3,f4,f5,f6⟩:=f2 b hb;refine⟨hn b hb,?_,?_,.inl (by rw[E];exact hb),fun x c e=>?_,fun p hp=>?_⟩
  ·rw[xe]
   show b≠l⁻¹;exact Ar (by rw[ai];exact Bc (gN b hb).2)
  ·rw[E]
   intro z;rcases List.mem_cons.mp (I2.stkSub b z) with r|r
   ·exact f1 r
   ·exact f3 r
  ·rw[xe] at e
   exact f5 x c (F x c e)
  ·rw[E] at hp
   exact f6 p hp
 subst E;have loop:∀n s',(∃i L H',Inv (cxC X scope N' (clOf X.env.cells scope.names []) l⁻¹ l (upd H2 D (.lst [])) fp) aa L H' s'/\tn i s'.heap/\(∀b∈fp,H' b=none)/\W i n L H')->
   codeAny (model X.prog X.w) X.A (.compLoop (.ListComp bP [⟨tg,iter,bq,0⟩] scope pos) 0 (.ref it) (.ref D) (compEnvC scope (clOf X.env.cells scope.names []) l⁻¹ X.env)) (compPost (model X.prog X.w) X.A X.xe use R (.ref D) l⁻¹) s':=by
  intro n0 sI l8;refine codeAny_loop rfl (fun n s'=>∃i L H',Inv (cxC X scope N' (clOf X.env.cells scope.names []) l⁻¹ l (upd H2 D (.lst [])) fp) aa L H' s'/\tn i s'.heap/\(∀b∈fp,H' b=none)/\W i n L H') (fun n s' hI=>?_) n0 l8;obtain⟨i,L,H',I',ah,fP,w'⟩:=hI;show wpAny _ X.A ((compTurn (.ListComp bP [⟨tg,iter,bq,0⟩] scope pos) 0 (.ref it) (.ref D) (compEnvC scope (clOf X.env.cells scope.names []) l⁻¹ X.env)).onRaise (fun x=>do noteFrame x (compEnvC scope (clOf X.env.cells scope.names []) l⁻¹ X.env);theTreesLotGoes x)) _ _ s';refine wpAny_noted ?_;rw[compTurn_list];refine Aa (wpAny_standAt (Aa ?_));rcases turn i n L H' w' with ⟨stop,qn⟩|⟨go,step⟩
  ·refine aR (T.done (cxC X scope N' (clOf X.env.cells scope.names []) l⁻¹ l (upd H2 D (.lst [])) fp) rfl rfl rfl hc i aa s' L H' _ I' (S fP) ah stop) fun r O ⟨hr,I4⟩=>?_
   subst hr;refine Ac ?_;obtain⟨m,hn,_⟩:=id I4.loc;refine fin D _ H' O _ ⟨⟨m,hn⟩,I3.sz,fun e=>?_,fun x c e=>?_,fun p hp=>Ar (Ah (I3.pin p hp).1),I4.free,fun h' P=>leave I4 P⟩ qn
   ·obtain⟨m3,md,_⟩:=I3.loc
    obtain⟨o3,_,_,fY,_⟩:=md;exact absurd e.symm (Ar (Ah fY))
   ·obtain⟨v,hv⟩:=I3.cell x c e
    obtain⟨o3,fY,_⟩:=hv;exact Ar (Ah fY)
  ·refine aR (T.item (cxC X scope N' (clOf X.env.cells scope.names []) l⁻¹ l (upd H2 D (.lst [])) fp) rfl rfl rfl hc i aa s' L H' _ I' (S fP) ah go) fun r O ⟨u,hr,h4⟩=>?_
   subst hr;refine Aa (aR h4 fun _ s5 ⟨x,H5,I5,r5,y5,st5,fr5⟩=>?_);have I5':=I5.pinned (S fr5) (T.obj _ _ st5);refine Aa (Bd (jl _ s5 L H5 x u _ I5' r5 (step x H5 y5)) (fun _ s6 h6=>?_) fun _ _ z=>z.elim);obtain⟨eZ,H6,I6,q6⟩:=h6;refine Aa (Bd (ht' _ s6 eZ H6 _ I6 q6) (fun ok s7 h7=>?_) fun _ _ z=>z.elim);obtain⟨H7,I7,q7⟩:=h7;have again:∀{eU:St}{H8:Hp}{s8:Shared}{m':Nat},Inv (cxC X scope N' (clOf X.env.cells scope.names []) l⁻¹ l (upd H2 D (.lst [])) fp) (aa++jN fp s5.heap) eU H8 s8->m'<n->W (i+1) m' eU H8->
     ∃m,m<n/\∃i L H',Inv (cxC X scope N' (clOf X.env.cells scope.names []) l⁻¹ l (upd H2 D (.lst [])) fp) aa L H' s8/\tn i s8.heap/\(∀b∈fp,H' b=none)/\W i m L H':=fun{eU H8 s8 m'} I8 hm w8=>by
    refine⟨m',hm,i+1,eU,H8,I8.unpinned,T.keep _ _ _ st5 fun b hb o e=>(I8.pin (b,o) (AI _ (AI _ (jO hb e)))).1,fun b hb=>?_,w8⟩;obtain⟨o,e,d⟩:=T.obj _ _ st5 b hb;exact(I8.pin (b,o) (AI _ (AI _ (jO hb e)))).2.1
   cases ok with
   |false=>
    obtain⟨m',hm,w7⟩:=q7;exact Ac ⟨rfl,again I7 hm w7⟩
   |true=>
    refine Aa (Aa (Bd (he' _ s7 eZ H7 _ I7 q7) (fun v s8 h8=>?_) fun _ _ z=>z.elim));obtain⟨y,H8,I8,r8,ys,m',lh,kX,mV,w8⟩:=h8;refine Aa (Bd (zT (X:=cxC X scope N' (clOf X.env.cells scope.names []) l⁻¹ l (upd H2 D (.lst [])) fp) _ s8 eZ H8 (.ref D) [y] (.ref D) [v] (fun _ H9=>H9=upd H8 D (.lst (ys++[y]))) I8 rfl (.cons r8 .nil) ⟨D,ys,y,rfl,rfl,lh,kX,rfl⟩) (fun _ s9 h9=>?_) fun _ _ z=>z.elim);obtain⟨_,H9,I9,_,e9⟩:=h9;subst e9;exact Ac (Ac ⟨rfl,again I9 mV w8⟩)
 have start:∃i L H',Inv (cxC X scope N' (clOf X.env.cells scope.names []) l⁻¹ l (upd H2 D (.lst [])) fp) aa L H' {l with heap:=aq}/\tn i ({l with heap:=aq}:Shared).heap/\(∀b∈fp,H' b=none)/\W i m0 L H':=by
  refine⟨0,ik av σ,upd H2 D (.lst []),Ic,T.keep 0 _ _ c7 fun b hb o e=>G b o (by rw[h3];exact Ad _ e),fun b hb=>?_,w0⟩;rw[zh (gN b hb).1];exact(f2 b hb).1
 have es:({M with heap:=aq,toks:=M.toks+([]:List (Str×Value)).length}:Shared)={l with heap:=aq}:=by rw[e3];rfl
 show codeAny (model X.prog X.w) X.A _ _ ({M with heap:=aq,toks:=M.toks+([]:List (Str×Value)).length}:Shared);rw[es];refine codeAny_compStart_list (loop m0 _ start) (T.self _ 0 _ _ _ ?_ (loop m0 _ start));exact T.keep 0 _ _ c7 fun b hb o e=>G b o (by rw[h3];exact Ad _ e)
def FD(hc:X.calm=true)(hk:scope.kind=.function)(c:∀y∈scope.names,y.2≠.cell)(e:∀y∈scope.names,y.2=.local->scope.names.lookup y.1=some .local)(hfr:∀y∈scope.names,y.2=.free->X.env.kindOf y.1=some .cell\/X.env.kindOf y.1=some .free)(i:lU X.N N' av scope)(hi:PI X tg iter wi)(j:∀a C s₀ H₀ ex,PG (cxC X scope N' a C s₀ H₀ ex) tg g)(ht:∀a C s₀ H₀ ex,gR (cxC X scope N' a C s₀ H₀ ex) bq tc)(he:∀a C s₀ H₀ ex,PE (cxC X scope N' a C s₀ H₀ ex) bP te)(hs:∀x,foldedSetIterable iter X.env x=pure x:=by intro _;rfl):PE X (.ListComp bP [⟨tg,iter,bq,0⟩] scope pos) (ka wi av g tc te):=by
 intro aa s σ H Q I h;rw[eval_ListComp];refine FC (use:=none) hc hk c e hfr i hi j ht he hs I h fun D C H' l f L q=>?_;obtain⟨m,d⟩:=L.ns;exact⟨m,d,fun h' b=>⟨.ref D,H',L.back h' b,rfl,q⟩⟩
end
end L2
end
section
namespace Zp
open PySem PySem.Spec PyProof.Rows
section
variable{prog:Program}{w:World}{A:Around}{E:Ω}{s:Shared}
def FE{it t:Addr}{i:Nat}{c:Array Value}{x:Value}{Q:Ω}(b:s.heap.IsTupleIter it t i)(ht:s.heap.IsTuple t c)(hx:c[i]?=some x)(f:∀h',h'.IsTupleIter it t (i+1)->AR it s.heap h'->Q x {s with heap:=h'}):wpAny (model prog w) A (Builtin.SmallTypes.nextOf (.ref it)) Q E s:=by
 obtain⟨o,a,hc,hd⟩:=id b;obtain⟨g,d,_,h,e⟩:=ht;unfold Builtin.SmallTypes.nextOf;refine Aa (wpAny_callSpecial?_slot (name:=Str.ofString "__next__") b.typeIs F.slot_tuple_iterator_next (A3 F.slot_tuple_iterator_next b.typeIs F.entry_tuple_iterator_next ?_ (F.args_tuple_iterator_next_1 _)));show wpAny _ _ (field (.ref it) 0 >>= _) _ _ s;refine Aa (AN a hd (x:=.ref t) rfl ?_);show wpAny _ _ (if(Value.ref t==Value.none)=true then _ else _) _ _ s;rw[if_neg (show ¬((Value.ref t==Value.none)=true) from As)];show wpAny _ _ (field (.ref it) 1 >>= _) _ _ s;refine Aa (AN a hd (x:=.int i 0) rfl ?_);show wpAny _ _ (seqItems? (.ref t) >>= _) _ _ s;refine Aa (wpAny_seqItems d e ?_);simp only[Int.toNat_natCast,hx];refine Aa (A8 a hd (by simp) (Ac ⟨x,rfl,Ac (f _ ?_ (A1 ..))⟩));exact⟨_,Heap.get?_update_self _ a (Obj.isFreed_of_fields (A0 hd _)),(Obj.cls_mapFields ..).trans hc,by
  rw[A0 hd];simp[rawInt]⟩
def FF{it t:Addr}{i:Nat}{d:Array Value}{Q:Ω}(f:A.handled=none)(c:s.heap.IsTupleIter it t i)(ht:s.heap.IsTuple t d)(hx:d[i]?=none)(j:∀h' e,Heap.ExtBut it s.heap h'->(∃o,h'.get? e=some o/\o.cls=.type "StopIteration")->E (.ref e) {s with heap:=h'}):wpAny (model prog w) A (Builtin.SmallTypes.nextOf (.ref it)) Q E s:=by
 obtain⟨o,b,hc,hd⟩:=id c;obtain⟨l,g,_,p,h⟩:=ht;unfold Builtin.SmallTypes.nextOf;refine Aa (wpAny_callSpecial?_slot (name:=Str.ofString "__next__") c.typeIs F.slot_tuple_iterator_next (A3 F.slot_tuple_iterator_next c.typeIs F.entry_tuple_iterator_next ?_ (F.args_tuple_iterator_next_1 _)));show wpAny _ _ (field (.ref it) 0 >>= _) _ _ s;refine Aa (AN b hd (x:=.ref t) rfl ?_);show wpAny _ _ (if(Value.ref t==Value.none)=true then _ else _) _ _ s;rw[if_neg (show ¬((Value.ref t==Value.none)=true) from As)];show wpAny _ _ (field (.ref it) 1 >>= _) _ _ s;refine Aa (AN b hd (x:=.int i 0) rfl ?_);show wpAny _ _ (seqItems? (.ref t) >>= _) _ _ s;refine Aa (wpAny_seqItems g h ?_);simp only[Int.toNat_natCast,hx];refine Aa (wpAny_rule (Aa (A8 b hd (by simp) ?_)));show wpAny _ _ (newExc (.type "StopIteration") [] >>= _) _ _ _;refine Aa ?_;simp only[newExc,newTuple];refine Aa (AS ?_ (by size_fits));refine Aa (m:=firstArgMember _ _) (wpAny_of_eq (a:=Value.none) (by first|rfl|(simp only[firstArgMember];rfl)) ?_);refine AS ?_ (by size_fits);simp only[raiseNew];refine Aa (wpAny_handled ?_)
 first|rw[show A.in1.handled=none from f]|rw[f]
 refine Aa (Ac (wpAny_throw ?_));exact j _ _ (((A1 ..).extBut.push _).push _) ⟨_,Ax _ rfl,rfl⟩
end
def FG{h h':Heap}{a:Addr}{b:Array Value}(x:h.IsTuple a b)(e:∀o,h.get? a=some o->h'.get? a=some o):h'.IsTuple a b:=let ⟨o,ho,r⟩:=x;⟨o,e o ho,r⟩
def yO{prog:Program}{w:World}{A:Around}(j:A.handled=none)(it t:Addr)(c:t≠it)(b:Array Value):Draws prog w A it [it,t] b.size (fun i v=>b[i]?=some v) (fun i h=>h.IsTupleIter it t i/\h.IsTuple t b) where
 live:=fun _ _ st=>let ⟨o,ho,_⟩:=st.1;⟨o,ho⟩
 frame:=fun _ _ _ st hk=>⟨st.1.at fun o e=>hk it (by simp) o e,FG st.2 fun o e=>hk t (by simp) o e⟩
 item:=fun i s Q E hi st d=>by
  refine FE st.1 st.2 (x:=b[i]) (by simp[hi]) fun h' f a=>?_;exact d _ h' s.toks (by simp[hi]) ⟨f,st.2.extBut a.extBut c⟩ a
 done:=fun s Q E st g=>FF j st.1 st.2 (by simp) g
structure Apart(z TI TO i1 i2:Addr)(b_ bX:List Addr):Prop where
 z1:z∉b_
 z2:z∉bX
 o1:TO∉b_
 o2:TO∉bX
 m1:i1∈b_
 m2:i2∈bX
 x12:i1∉bX
 x21:i2∉b_
 TIz:TI≠z
 TOz:TO≠z
 TITO:TI≠TO
 TIi1:TI≠i1
 TIi2:TI≠i2
section
variable{prog:Program}{w:World}{A:Around}{E:Ω}{s:Shared}{z TI TO i1 i2:Addr}{b_ bX:List Addr}{n1 n2 i:Nat}{P1 P2:Nat->Value->Prop}{S1 S2:Nat->Heap->Prop}{a b:Value}
def FH{Q:Ω}(D1:Draws prog w A i1 b_ n1 P1 S1)(D2:Draws prog w A i2 bX n2 P2 S2)(D:Apart z TI TO i1 i2 b_ bX)(j:IsZip s.heap z TI TO .none)(dG:IsPair s.heap TI (.ref i1) (.ref i2))(dD:IsPair s.heap TO a b)(h1:S1 i s.heap)(h2:S2 i s.heap)(l1:i<n1)(l2:i<n2)(hQ:∀x y h' tk,P1 i x->P2 i y->IsZip h' z TI TO (rawInt s⁻¹)->IsPair h' TO x y->S1 (i+1) h'->S2 (i+1) h'->IsPair h' s⁻¹ x y->h'.objs.size=s⁻¹+1->
   (∀c o,c≠z->c≠TO->c≠i1->c≠i2->s.heap.get? c=some o->h'.get? c=some o)->Q (.ref s⁻¹) {s with heap:=h',toks:=tk}):
  wpAny (model prog w) A (Builtin.«zip.__next__» ⟨[.ref z],[]⟩) (fun fin s'=>∃v,fin=.done (.ret v)/\Q v s') E s:=by
 have f:∀c∈b_,c≠z:=fun c hc e=>D.z1 (e▸hc);have L:∀c∈bX,c≠z:=fun c hc e=>D.z2 (e▸hc);have M:∀c∈b_,c≠TO:=fun c hc e=>D.o1 (e▸hc);have N:∀c∈bX,c≠TO:=fun c hc e=>D.o2 (e▸hc);have mh:∀c∈bX,c≠i1:=fun c hc e=>D.x12 (e▸hc);have qk:∀c∈b_,c≠i2:=fun c hc e=>D.x21 (e▸hc);have j5:i1≠z:=f _ D.m1;have lE:i2≠z:=L _ D.m2;have gn:TO≠i1:=(M _ D.m1).symm;have lR:TO≠i2:=(N _ D.m2).symm;show wpAny _ _ (field (.ref z) 2 >>= _) _ _ _;refine Aa (AN j rfl (x:=.bool false) rfl ?_);show wpAny _ _ (field (.ref z) 3 >>= _) _ _ _;refine Aa (AN j rfl (x:=.ref TI) rfl ?_);refine Aa (wpAny_seqItems dG rfl ?_);show wpAny _ _ (Builtin.SmallTypes.ownedTupleIsFree (.ref z) >>= _) _ _ _;refine Aa ?_;unfold Builtin.SmallTypes.ownedTupleIsFree;refine Aa (AN j rfl (x:=.none) rfl (Ac ?_));simp only[if_true];refine Aa (wpAny_rule ?_);refine Aa (AN j rfl (x:=.ref TO) rfl ?_);refine Aa (wpAny_setField_rec j (by simp) fun g1 u k1=>?_);replace u:IsZip g1 z TI TO .ellipsis:=u;refine Aa ?_;simp only[List.zipIdx_cons,List.zipIdx_nil,List.forIn_cons,List.forIn_nil];refine Aa (Aa (wpAny_onRaise ?_));show wpAny _ _ (Builtin.SmallTypes.nextOf (.ref i1) >>= _) _ _ _;refine Aa (D1.item i _ _ _ l1 (D1.frame _ _ _ h1 fun c hc o e=>k1.extBut c o (f c hc) e) fun x g2 pJ X Y k2=>Ac ?_);have O:IsPair g2 TO a b:=k2.extBut _ _ gn (k1.extBut _ _ D.TOz dD);refine Aa (wpAny_seqItems O rfl ?_);refine Aa (wpAny_updateSeq_pair O fun g3 C k3=>?_);replace C:IsPair g3 TO x b:=C;refine Aa (wpAny_letGo (Ac ?_));refine Aa (Aa (wpAny_onRaise ?_));show wpAny _ _ (Builtin.SmallTypes.nextOf (.ref i2) >>= _) _ _ _;refine Aa (D2.item i _ _ _ l2 (D2.frame _ _ _ h2 fun c hc o e=>k3.extBut c o (N c hc) (k2.extBut c o (mh c hc) (k1.extBut c o (L c hc) e))) fun y g4 vD Z s4 g=>Ac ?_);have P:IsPair g4 TO x b:=g.extBut _ _ lR C;refine Aa (wpAny_seqItems P rfl ?_);refine Aa (wpAny_updateSeq_pair P fun g5 l k5=>?_);replace l:IsPair g5 TO x y:=l;refine Aa (wpAny_letGo (Ac (Ac ?_)));refine Aa (wpAny_seqItems l rfl ?_);refine Aa (wpAny_newTuple ?_);have hsz:g5.objs.size=s⁻¹:=by rw[k5.1,g.1,k3.1,k2.1,k1.1]
 have S:IsZip g5 z TI TO .ellipsis:=k5.extBut _ _ D.TOz.symm (g.extBut _ _ lE.symm (k3.extBut _ _ D.TOz.symm (k2.extBut _ _ j5.symm u)));have kk:∀c o,c≠z->c≠TO->c≠i1->c≠i2->s.heap.get? c=some o->g5.get? c=some o:=fun c o d p F G e=>
  k5.extBut _ _ p (g.extBut _ _ G (k3.extBut _ _ p (k2.extBut _ _ F (k1.extBut _ _ d e))))
 have d1:S1 (i+1) g5:=D1.frame _ _ _ Y fun c hc o e=>k5.extBut c o (M c hc) (g.extBut c o (qk c hc) (k3.extBut c o (M c hc) e));have d2:S2 (i+1) g5:=D2.frame _ _ _ s4 fun c hc o e=>k5.extBut c o (N c hc) e;have T:z<g5.objs.size:=Ah S;have e1:∀c∈b_,∀o,g5.get? c=some o->c<g5.objs.size:=fun c _ o e=>Ah e;show wpAny _ _ (Builtin.SmallTypes.ownedTupleHandOut (.ref z) (.ref g5.objs.size) >>= _) _ _ _;refine Aa ?_;unfold Builtin.SmallTypes.ownedTupleHandOut;have z6:IsZip (g5.push {cls:=.type "tuple",data:=.seq #[x,y]}) z TI TO .ellipsis:=Ad _ S;refine Aa (wpAny_setField_rec z6 (by simp) fun g7 H I=>?_);replace H:IsZip g7 z TI TO (rawInt g5.objs.size):=H;refine wpAny_setField_rec H (by simp) fun h q J=>?_;replace q:IsZip h z TI TO (rawInt g5.objs.size):=q;have r:∀c o,c≠z->g5.get? c=some o->h.get? c=some o:=fun c o d e=>J.extBut _ _ d (I.extBut _ _ d (Ad _ e));have W:IsPair h g5.objs.size x y:=J.extBut _ _ (Nat.ne_of_gt T) (I.extBut _ _ (Nat.ne_of_gt T) (Ax _ rfl));have U:h.objs.size=g5.objs.size+1:=by rw[J.1,I.1,Heap.size_push]
 rw[hsz] at q W U;refine Ac ⟨_,rfl,?_⟩;show Q (.ref g5.objs.size) _;rw[hsz];exact hQ x y h _ X Z q (r _ _ D.TOz l) (D1.frame _ _ _ d1 fun c hc o e=>r c o (f c hc) e) (D2.frame _ _ _ d2 fun c hc o e=>r c o (L c hc) e) W U fun c o d p F G e=>r c o d (kk c o d p F G e)
def FI{Q:Fin->Shared->Prop}(D1:Draws prog w A i1 b_ n1 P1 S1)(D2:Draws prog w A i2 bX n2 P2 S2)(D:Apart z TI TO i1 i2 b_ bX)(j:IsZip s.heap z TI TO .none)(U:IsPair s.heap TI (.ref i1) (.ref i2))(W:IsPair s.heap TO a b)(h1:S1 i s.heap)(h2:S2 i s.heap)(L:i=n1\/(i<n1/\i=n2))(H:∀h' e tk,(∀c o,c≠z->c≠TO->c≠i1->c≠i2->s.heap.get? c=some o->h'.get? c=some o)->(∃o,h'.get? e=some o/\o.cls=.type "StopIteration")->E (.ref e) {s with heap:=h',toks:=tk}):wpAny (model prog w) A (Builtin.«zip.__next__» ⟨[.ref z],[]⟩) Q E s:=by
 have h:∀c∈b_,c≠z:=fun c hc e=>D.z1 (e▸hc);have y:∀c∈bX,c≠z:=fun c hc e=>D.z2 (e▸hc);have N:∀c∈b_,c≠TO:=fun c hc e=>D.o1 (e▸hc);have O:∀c∈bX,c≠TO:=fun c hc e=>D.o2 (e▸hc);have P:∀c∈bX,c≠i1:=fun c hc e=>D.x12 (e▸hc);have C:i1≠z:=h _ D.m1;have S:i2≠z:=y _ D.m2;have T:TO≠i1:=(N _ D.m1).symm;show wpAny _ _ (field (.ref z) 2 >>= _) _ _ _;refine Aa (AN j rfl (x:=.bool false) rfl ?_);show wpAny _ _ (field (.ref z) 3 >>= _) _ _ _;refine Aa (AN j rfl (x:=.ref TI) rfl ?_);refine Aa (wpAny_seqItems U rfl ?_);show wpAny _ _ (Builtin.SmallTypes.ownedTupleIsFree (.ref z) >>= _) _ _ _;refine Aa ?_;unfold Builtin.SmallTypes.ownedTupleIsFree;refine Aa (AN j rfl (x:=.none) rfl (Ac ?_));simp only[if_true];refine Aa (wpAny_rule ?_);refine Aa (AN j rfl (x:=.ref TO) rfl ?_);refine Aa (wpAny_setField_rec j (by simp) fun g1 l k1=>?_);replace l:IsZip g1 z TI TO .ellipsis:=l;refine Aa ?_;simp only[List.zipIdx_cons,List.zipIdx_nil,List.forIn_cons,List.forIn_nil];refine Aa (Aa (wpAny_onRaise ?_));have f1:=D1.frame _ _ _ h1 fun c hc o e=>k1.extBut c o (h c hc) e;rcases L with q|⟨M,q⟩
 ·show wpAny _ _ (Builtin.SmallTypes.nextOf (.ref i1) >>= _) _ _ _
  refine Aa (D1.done _ _ _ (q▸f1) fun g2 e k2 he=>?_);obtain⟨r,d,g⟩:=he;have z2:IsZip g2 z TI TO .ellipsis:=k2 _ _ C.symm l;have u:e≠z:=fun x=>by subst x;rw[z2] at d;cases d;simp at g
  refine wpAny_setField_rec z2 (by simp) fun g3 _ k3=>H g3 e _ (fun c o f _ p _ x=>k3.extBut _ _ f (k2 _ _ p (k1.extBut _ _ f x))) ⟨r,k3.extBut _ _ u d,g⟩
 ·show wpAny _ _ (Builtin.SmallTypes.nextOf (.ref i1) >>= _) _ _ _
  refine Aa (D1.item i _ _ _ M f1 fun x g2 X Y Z k2=>Ac ?_);have F:IsPair g2 TO a b:=k2.extBut _ _ T (k1.extBut _ _ D.TOz W);refine Aa (wpAny_seqItems F rfl ?_);refine Aa (wpAny_updateSeq_pair F fun g3 t3 k3=>?_);refine Aa (wpAny_letGo (Ac ?_));refine Aa (Aa (wpAny_onRaise ?_));have f2:S2 i g3:=D2.frame _ _ _ h2 fun c hc o e=>k3.extBut c o (O c hc) (k2.extBut c o (P c hc) (k1.extBut c o (y c hc) e));show wpAny _ _ (Builtin.SmallTypes.nextOf (.ref i2) >>= _) _ _ _;refine Aa (D2.done _ _ _ (q▸f2) fun g4 e v he=>?_);obtain⟨r,d,g⟩:=he;have G:IsZip g4 z TI TO .ellipsis:=v _ _ S.symm (k3.extBut _ _ D.TOz.symm (k2.extBut _ _ C.symm l));have u:e≠z:=fun x=>by subst x;rw[G] at d;cases d;simp at g
  refine wpAny_setField_rec G (by simp) fun g5 _ k5=>H g5 e _ (fun c o f I p J x=>k5.extBut _ _ f (v _ _ J (k3.extBut _ _ I (k2.extBut _ _ p (k1.extBut _ _ f x))))) ⟨r,k5.extBut _ _ u d,g⟩
end
def FJ{prog:Program}{w:World}{A:Around}{z TI TO i1 i2:Addr}{b_ bX:List Addr}{n1 n2:Nat}{P1 P2:Nat->Value->Prop}{S1 S2:Nat->Heap->Prop}(D1:Draws prog w A.in1 i1 b_ n1 P1 S1)(D2:Draws prog w A.in1 i2 bX n2 P2 S2)(D:Apart z TI TO i1 i2 b_ bX):WalksT prog w A z (z::TI::TO::(b_++bX)) [z,TO,i1,i2] (min n1 n2) (fun i vals=>∃x y,P1 i x/\P2 i y/\vals=#[x,y])
   (fun i h=>IsZip h z TI TO .none/\IsPair h TI (.ref i1) (.ref i2)/\(∃a b,IsPair h TO a b)/\S1 i h/\S2 i h)
   (fun i T h=>IsZip h z TI TO (rawInt T)/\IsPair h TI (.ref i1) (.ref i2)/\(∃a b,IsPair h TO a b)/\S1 (i+1) h/\S2 (i+1) h/\T≠z/\T≠TO/\T≠i1/\T≠i2) where
 sub:=fun c hc=>by
  simp at hc ⊢;rcases hc with rfl|rfl|rfl|rfl
  ·simp
  ·simp
  ·exact .inr (.inr (.inr (.inl D.m1)))
  ·exact .inr (.inr (.inr (.inr D.m2)))
 frame:=fun i h h' d hk=>by
  obtain⟨g,l,⟨a,b,p⟩,h1,h2⟩:=d;exact⟨hk z (by simp) _ g,hk TI (by simp) _ l,⟨a,b,hk TO (by simp) _ p⟩,D1.frame _ _ _ h1 fun c hc o e=>hk c (by simp[hc]) o e,D2.frame _ _ _ h2 fun c hc o e=>hk c (by simp[hc]) o e⟩
 item:=fun i s Q E hi d r=>by
  obtain⟨g,l,⟨a,b,p⟩,h1,h2⟩:=d;have j:s.TypeIs (.ref z) "zip":=⟨_,g,rfl⟩;unfold pyNext;refine Aa (wpAny_attempt (wpAny_callSpecial?_slot (name:=Str.ofString "__next__") j F.slot_zip_next (A3 F.slot_zip_next j F.entry_zip_next
   (FH D1 D2 D g l p h1 h2 (Az hi (Nat.min_le_left ..)) (Az hi (Nat.min_le_right ..)) fun x y h' tk u v C G H I J Y hk=>Ac ?_) (F.args_zip_next_1 _))))
  have lt:∀{c o},s.heap.get? c=some o->s⁻¹≠c:=fun e=>Nat.ne_of_gt (Ah e);obtain⟨Z,M⟩:=D1.live _ _ h1;obtain⟨o2,N⟩:=D2.live _ _ h2;exact r s⁻¹ #[x,y] h' tk ⟨_,_,u,v,rfl⟩ (Ag _) ⟨_,J,rfl,_,rfl⟩ ⟨C,hk _ _ D.TIz D.TITO D.TIi1 D.TIi2 l,⟨_,_,G⟩,H,I,lt g,lt p,lt M,lt N⟩
   fun c o hc e=>hk c o (fun x=>hc (by simp[x])) (fun x=>hc (by simp[x])) (fun x=>hc (by simp[x])) (fun x=>hc (by simp[x])) e
 go:=fun cJ k pos i T s Q E hm r=>by
  obtain⟨g,l,⟨a,b,p⟩,h1,h2,_⟩:=hm;refine wpAny_letOwnedTupleGo_zip g fun h' L f=>r h' ⟨L,f.extBut _ _ D.TIz l,⟨a,b,f.extBut _ _ D.TOz p⟩,
   D1.frame _ _ _ h1 fun c hc o e=>f.extBut c o (fun q=>D.z1 (q▸hc)) e,D2.frame _ _ _ h2 fun c hc o e=>f.extBut c o (fun q=>D.z2 (q▸hc)) e⟩ fun c o hc e=>f.extBut _ _ (fun x=>hc (by simp[x])) e
 apart:=fun i T h hm j=>by
  obtain⟨_,_,_,_,_,O,P,S,U⟩:=hm;simp at j;rcases j with rfl|rfl|rfl|rfl
  ·exact O rfl
  ·exact P rfl
  ·exact S rfl
  ·exact U rfl
 done:=fun s Q E d r=>by
  obtain⟨g,l,⟨a,b,p⟩,h1,h2⟩:=d;have j:s.TypeIs (.ref z) "zip":=⟨_,g,rfl⟩;have X:min n1 n2=n1\/(min n1 n2<n1/\min n1 n2=n2):=ω
  unfold pyNext;refine Aa (wpAny_attempt (wpAny_callSpecial?_slot (name:=Str.ofString "__next__") j F.slot_zip_next
   (A3 F.slot_zip_next j F.entry_zip_next (FI D1 D2 D g l p h1 h2 X fun h' e tk hk he=>?_) (F.args_zip_next_1 _))))
  obtain⟨o,W,hc⟩:=he;refine Aa (wpAny_isInstance (T:="StopIteration") (b:=true) ⟨o,W,hc⟩ isSubtype_stop ?_);exact Ac (r _ tk fun c o hc e=>hk c o (fun x=>hc (by simp[x])) (fun x=>hc (by simp[x])) (fun x=>hc (by simp[x])) (fun x=>hc (by simp[x])) e)
 self:=fun i s Q E d r=>wpAny_pyIter_zip d.1 r
end Zp
end
section
namespace L2
open PySem PySem.Spec PyProof.Rows
section
variable{X:Cx}{aa:Ψ}{σ:St}{H:Hp}{s:Shared}{h':Heap}
def Inv.turneds{t':Nat}{ch:List Addr}(I:Inv X aa σ H s)(hf:∀b∈ch,bF X aa H b)(k:∀b o,b∉ch->s.heap.get? b=some o->h'.get? b=some o):Inv X aa σ H {s with heap:=h',toks:=t'}:=by
 have a:∀b u,H b=some u->b∉ch:=fun b u e z=>by have:=(hf b z).1;rw[this] at e;cases e
 refine I.step (g':=s.gens) (d':=s.drawn) (ch:=ch) (fun b hb=>?_) (fun b o _ _ hc e _=>k b o hc e) (fun b o _ _ hc e _=>⟨o.slots,k b o hc e⟩) (fun _ _ _ _ n=>n)
  (fun b o hc e=>⟨o,k b o hc e⟩) (fun _ _ e=>e) (fun _ _ _ e=>e) (fun b ps e=>⟨#[],by rw[e];simp⟩) (fun m hm=>?_) (fun b u e=>?_) I.bare
 ·obtain⟨f0,f1,f2,f3,f4,f5⟩:=hf b hb
  exact⟨f3,f1,f4,f5⟩
 ·obtain⟨o,es,ep,d,r⟩:=hm
  exact⟨o,es,ep,k _ o (fun z=>(hf _ z).2.1 rfl) d,r⟩
 ·refine(I.hok b u e).stay (fun c v hc q=>k c v ?_ q) (fun _ q=>q) fun _ _ q=>q
  rcases hc with z|z
  ·rw[z];exact a b u e
  ·exact a c _ z
def Inv.adopt{a:Addr}{o:HO}(I:Inv X aa σ H s)(d:H a=none)(h1:X.s₀⁻¹<=a)(h2:a≠X.env.locals)(f:∀x c,X.env.cells.lookup x=some c->c≠a)(h4:∀p∈X.pn++aa,p.1≠a)(new:zA X.prog X.w (upd H a o) s.heap a o):Inv X aa σ (upd H a o) s:=by
 refine I.step (h':=s.heap) (g':=s.gens) (t':=s.toks) (d':=s.drawn) (ch:=[a]) (fun b hb=>?_) (fun b o _ _ hc e _=>e) (fun b o _ _ hc e _=>⟨o.slots,e⟩) (fun b o hc e n=>?_)
  (fun b o hc e=>⟨o,e⟩) (fun b xs e=>?_) (fun b o u e=>?_) (fun b ps e=>⟨#[],?_⟩) (fun m hm=>hm) (fun b u e=>?_) I.bare
 ·have e:b=a:=by simpa using hb
  subst e;exact⟨.inr h1,h2,f,h4⟩
 ·rw[zh (fun z=>hc (by simp[z]))];exact n
 ·rw[zh (zg e d)];exact e
 ·rw[zh (zg e d)];exact e
 ·rw[zh (zg e d),e];simp
 ·by_cases hb:b=a
  ·subst hb;rw[al] at e;cases e;exact new
  ·rw[zh hb] at e
   exact(I.hok b u e).stay (fun _ _ _ q=>q) (fun c q=>by rw[zh (zg q d)];exact q) fun c xs q=>by rw[zh (zg q d)];exact q
def Inv.grown{t':Nat}{ch:List Addr}{a:Addr}{o:HO}(I:Inv X aa σ H s)(hf:∀b∈ch,bF X aa H b)(k:∀b o,b∉ch->s.heap.get? b=some o->h'.get? b=some o)(hp:s⁻¹<=a)(new:zA X.prog X.w (upd H a o) h' a o):Inv X aa σ (upd H a o) {s with heap:=h',toks:=t'}:=by
 have I1:Inv X aa σ H {s with heap:=h',toks:=t'}:=I.turneds hf k;obtain⟨f0,f1,f2,f3,f4,f5⟩:=I.fpOk hp (I.hok.fresh hp);exact I1.adopt f0 (AA I.sz hp) f1 f4 f5 new
def FK{b t:Addr}{o:Obj}(I:Inv X aa σ H s)(f:bF X aa H b)(hk:X.K.lookup t=some o):t≠b:=by
 intro z;subst z;have e:=I.ok.mod.kin t o hk;rcases f.2.2.2.1 with q|q
 ·exact I.ok.noex t o e q
 ·exact absurd (Az (Ah (I.ok.bs t o e).1) q) (Nat.lt_irrefl _)
def yP{b t:Addr}{xs:List V}(I:Inv X aa σ H s)(f:bF X aa H b)(h:SqT X.K H t xs):t≠b:=by
 rcases h with (h|⟨o,h⟩)|⟨o,_,_,hk,_⟩
 ·exact zg h f.1
 ·exact zg h f.1
 ·exact FK I f hk
end
def FM{P:Program}{w:World}{K:Ae}{J:It}{fp wr:List Addr}{it:Addr}{a:Nat->Heap->Prop}{cJ:List Expr}{k:Nat}{pos:Pos}(mem:it∈fp)(obj:∀i h,a i h->∀b∈fp,∃o,h.get? b=some o/\∀v,o.data≠.cell v)(keep:∀i h h',a i h->(∀b∈fp,∀o,h.get? b=some o->h'.get? b=some o)->a i h')(hw:∀b∈wr,b∈fp)(W:∀(X:Cx),X.prog=P->X.w=w->X.K=K->X.calm=true->∀(i:Nat)(aa:Ψ)(s:Shared)(σ:St)(H:Hp),Inv X aa σ H s->(∀b∈fp,bF X aa H b)->a i s.heap->(J.go i H\/J.stop i H)->
   ∃(y:List Addr)(n:Nat)(u:Nat->Array Value->Prop)(S:Nat->Heap->Prop)(z:Nat->Addr->Heap->Prop),WalksT P w X.A it y wr n u S z/\S i s.heap/\(∀j h,S j h->a j h)/\
    (J.go i H->i<n/\∀vals,u i vals->∃xs:List V,Vals xs vals.toList/\xs.length<=sizeLine/\∀p,H p=none->J.yld i H (.ref p) (upd H p (.tup xs)))/\(J.stop i H->i=n))
  (self:∀(A:Around)(i:Nat)(s:Shared)(Q:Ω)(E:Ω),a i s.heap->Q (.ref it) s->wpAny (model P w) A (pyIter (.ref it)) Q E s) :
  Turn P w K (.Tuple cJ k pos) J fp it a where
 mem:=mem
 obj:=obj
 keep:=keep
 item:=by
  intro X c d f hc i aa s σ H E I hf st l;obtain⟨y,n,u,S,z,WT,C,D,g,_⟩:=W X c d f hc i aa s σ H I hf st (.inl l);obtain⟨hi,N⟩:=g l;subst c d f;refine WT.item i s _ _ hi C fun T vals h' tk hp x F hm hk=>⟨.ref T,rfl,?_⟩;obtain⟨xs,O,U,hy⟩:=N vals hp;have I1:Inv X aa σ (upd H T (.tup xs)) {s with heap:=h',toks:=tk}:=I.grown (ch:=wr) (fun b hb=>hf b (hw b hb)) hk x (show zA X.prog X.w _ h' T (.tup xs) from⟨U,vals.toList,O,by have q:IsTup h' T vals:=F;simpa using q⟩);have Y:∀b∈fp,b≠T:=fun b hb=>by
   obtain⟨o,e,_⟩:=obj i _ st b hb;exact Ar (Az (Ah e) x)
  have r:∀b∈fp,bF X aa (upd H T (.tup xs)) b:=fun b hb=>by
   obtain⟨f0,fr⟩:=hf b hb;exact⟨by rw[zh (Y b hb)];exact f0,fr⟩
  refine WT.go cJ k pos i T _ _ _ hm fun G L M=>?_;have Z:Inv X aa σ (upd H T (.tup xs)) {s with heap:=G,toks:=tk}:=I1.turneds (s:={s with heap:=h',toks:=tk}) (t':=tk) (ch:=wr) (fun b hb=>r b (hw b hb)) M;exact⟨.ref T,_,Z,rfl,hy T (I.hok.fresh x),D _ _ L,fun b hb=>(r b hb).1⟩
 done:=by
  intro X c d f hc i aa s σ H E I hf st l;obtain⟨y,n,u,S,z,WT,C,D,_,g⟩:=W X c d f hc i aa s σ H I hf st (.inr l);subst c d f;have e:=g l;subst e;exact WT.done s _ _ C fun h' tk hk=>⟨rfl,I.turneds (ch:=wr) (fun b hb=>hf b (hw b hb)) hk⟩
 self:=self
def vj(K:Ae)(a b:Addr):It:=
 ⟨fun i H=>∃xs ys,SqT K H a xs/\SqT K H b ys/\i<min xs.length ys.length,
  fun i H v H'=>∃p x y,v=.ref p/\H p=none/\H'=upd H p (.tup [x,y])/\(∀xs,SqT K H a xs->xs[i]?=some x)/\∀ys,SqT K H b ys->ys[i]?=some y,
  fun i H=>∃xs ys,SqT K H a xs/\SqT K H b ys/\i=min xs.length ys.length⟩
def gh:(2:Nat)<=sizeLine:=by rw[sizeLine_eq];decide
def FN{P:Program}{w:World}{K:Ae}{cJ:List Expr}{k:Nat}{pos:Pos}(M N z TI TO i1 i2:Addr)(hd:TI≠z/\TO≠z/\TI≠TO/\TI≠i1/\TI≠i2/\z≠i1/\z≠i2/\TO≠i1/\TO≠i2/\i1≠i2):Turn P w K (.Tuple cJ k pos) (vj K M N) [z,TI,TO,i1,i2] z (fun i h=>IsZip h z TI TO .none/\IsPair h TI (.ref i1) (.ref i2)/\(∃a b,IsPair h TO a b)/\h.IsTupleIter i1 M i/\h.IsTupleIter i2 N i):=by
 obtain⟨d1,d2,d3,d4,d5,d6,d7,d8,d9,Z⟩:=hd;refine FM (wr:=[z,TO,i1,i2]) (by simp) (fun i h st b hb=>?_) (fun i h h' st c=>?_) (fun b hb=>?_) (fun X hP hw hK hc i aa s σ H I hf st u_=>?_) fun A i s Q E st h=>wpAny_pyIter_zip st.1 h
 ·obtain⟨d,l,⟨a,b',q⟩,⟨o4,r,_,O⟩,⟨o5,C,_,e5⟩⟩:=st
  simp at hb;rcases hb with rfl|rfl|rfl|rfl|rfl
  ·exact⟨_,d,fun v z=>by cases z⟩
  ·exact⟨_,l,fun v z=>by cases z⟩
  ·exact⟨_,q,fun v z=>by cases z⟩
  ·exact⟨_,r,fun v z=>by rw[O] at z;cases z⟩
  ·exact⟨_,C,fun v z=>by rw[e5] at z;cases z⟩
 ·obtain⟨d,l,⟨a,b',q⟩,r,C⟩:=st
  exact⟨c z (by simp) _ d,c TI (by simp) _ l,⟨a,b',c TO (by simp) _ q⟩,r.at fun o e=>c i1 (by simp) o e,C.at fun o e=>c i2 (by simp) o e⟩
 ·simp at hb ⊢
  rcases hb with rfl|rfl|rfl|rfl<;>simp
 ·subst hP hw hK
  have hd:∃xs ys,SqT X.K H M xs/\SqT X.K H N ys:=by
   rcases u_ with ⟨xs,ys,a,b,_⟩|⟨xs,ys,a,b,_⟩
   ·exact⟨xs,ys,a,b⟩
   ·exact⟨xs,ys,a,b⟩
  obtain⟨xs,ys,D,F⟩:=hd;obtain⟨us,r1,p1,_⟩:=I.tuple D;obtain⟨ws,r2,p2,_⟩:=I.tuple F;have L:=r1.length;have bY:=r2.length;have hh:=I.ok.hd hc;obtain⟨d,l,q,r,C⟩:=st;have f:=fun b hb=>yP I (hf b hb) D;have S:=fun b hb=>yP I (hf b hb) F;have AP:Zp.Apart z TI TO i1 i2 [i1,M] [i2,N]:=by
   refine⟨?_,?_,?_,?_,by simp,by simp,?_,?_,d1,d2,d3,d4,d5⟩
   ·simp;exact⟨d6,(f z (by simp)).symm⟩
   ·simp;exact⟨d7,(S z (by simp)).symm⟩
   ·simp;exact⟨d8,(f TO (by simp)).symm⟩
   ·simp;exact⟨d9,(S TO (by simp)).symm⟩
   ·simp;exact⟨Z,(S i1 (by simp)).symm⟩
   ·simp;exact⟨Z.symm,(f i2 (by simp)).symm⟩
  have WZ:=Zp.FJ (prog:=X.prog) (w:=X.w) (A:=X.A) (Zp.yO (A:=X.A.in1) hh i1 M (f i1 (by simp)) us.toArray) (Zp.yO (A:=X.A.in1) hh i2 N (S i2 (by simp)) ws.toArray) AP;refine⟨_,_,_,_,_,WZ,⟨d,l,q,⟨r,p1⟩,⟨C,p2⟩⟩,fun j h st=>⟨st.1,st.2.1,st.2.2.1,st.2.2.2.1.1,st.2.2.2.2.1⟩,fun g=>?_,fun g=>?_⟩
  ·obtain⟨G,J,U,W,hi⟩:=g
   have e1:=I.tuple_inj U D;have e2:=I.tuple_inj W F;subst e1 e2;refine⟨by simpa[<-L,<-bY] using hi,fun vals hp=>?_⟩;obtain⟨x,y,px,py,rfl⟩:=hp;have rS:us[i]?=some x:=by simpa using px
   have Y:ws[i]?=some y:=by simpa using py
   have lx:i<G.length:=ω
   have ly:i<J.length:=ω
   have gx:G[i]?=some G[i]:=by simp[lx]
   have gy:J[i]?=some J[i]:=by simp[ly]
   obtain⟨u,e3,ru⟩:=r1.get gx;obtain⟨u',O,fg⟩:=r2.get gy;rw[rS] at e3;cases e3;rw[Y] at O;cases O;refine⟨[G[i],J[i]],.cons ru (.cons fg .nil),gh,fun p hp=>⟨p,_,_,rfl,hp,rfl,fun zs T=>?_,fun zs T=>?_⟩⟩
   ·rw[I.tuple_inj T D];exact gx
   ·rw[I.tuple_inj T F];exact gy
  ·obtain⟨G,J,U,W,hi⟩:=g
   have e1:=I.tuple_inj U D;have e2:=I.tuple_inj W F;subst e1 e2
   simpa[<-L,<-bY] using hi
def FO(b e:Addr)(xs ys:Array Value):Meets (Builtin.«zip.__new__» ⟨[.type "zip",.ref b,.ref e],[]⟩) (fun _ R s=>s.heap.IsTuple b xs/\s.heap.IsTuple e ys/\
   ∀h',IsZip h' (s⁻¹+4) (s⁻¹+2) (s⁻¹+3) .none->IsPair h' (s⁻¹+2) (.ref s⁻¹) (.ref (s⁻¹+1))->
   IsPair h' (s⁻¹+3) .none .none->h'.IsTupleIter s⁻¹ b 0->h'.IsTupleIter (s⁻¹+1) e 0->
   (∀c o,s.heap.get? c=some o->h'.get? c=some o)->R (.ok (.ret (.ref (s⁻¹+4)))) {s with heap:=h'}):=
 .of_wp fun prog w A R s h=>by
  obtain⟨hp,g,d,tk,os⟩:=s;obtain⟨f,i,h⟩:=h;have p:=sub_zip;have j:Heap.IsTuple (Shared.heap ⟨hp,g,d,tk,os⟩) b xs:=f;have l:Heap.IsTuple (Shared.heap ⟨hp.push {cls:=.type "tuple_iterator",data:=.fields #[.ref b,.int 0 0]},g,d,tk,os⟩) e ys:=Heap.IsTuple.push i _
  wp_walk using wpAny_pyIter_tuple j,wpAny_pyIter_tuple l
  refine⟨_,rfl,?_⟩;dsimp only at h ⊢;have a:∀(h:Heap)(o:Obj),(h.push o).objs.size=h.objs.size+1:=fun h o=>Heap.size_push ..;simp only[a,Nat.add_assoc,Nat.reduceAdd];refine h _ ?_ ?_ ?_ ?_ ?_ fun c o x=>Ad _ (Ad _ (Ad _ (Ad _ (Ad _ x))))
  ·exact Heap.get?_push_at (by simp only[a]) rfl
  ·exact Ad _ (Ad _ (Heap.get?_push_at (by simp only[a]) rfl))
  ·exact Ad _ (Heap.get?_push_at (by simp only[a]) rfl)
  ·exact⟨_,Ad _ (Ad _ (Ad _ (Ad _ (Ax _ rfl)))),rfl,rfl⟩
  ·exact⟨_,Ad _ (Ad _ (Ad _ (Heap.get?_push_at (by simp only[a]) rfl))),rfl,rfl⟩
section
variable{X:Cx}{cJ:List Expr}{k:Nat}{eK:Pos}
def vl(K:Ae)(ta:TA):TI:=fun σ H R=>ta σ H fun vs H1=>∃a b,vs=[.ref a,.ref b]/\(∃xs,SqT K H1 a xs)/\(∃ys,SqT K H1 b ys)/\R (vj K a b) H1
def FP{a b:Expr}{ta:TA}{p pos:Pos}(J:Gl X "zip")(hm:X.mg "zip"=none)(L:A4 "zip"=some (.type "zip"))(M:PA X [a,b] ta)(hs:starEach [a,b] X.env=[(false,eval a X.env),(false,eval b X.env)]:=by rfl)(l:starEach [b] X.env=[(false,eval b X.env)]:=by rfl):PI X (.Tuple cJ k eK) (.Call (.Name "zip" p) [a,b] [] pos) (vl X.K ta):=by
 intro aa s σ H R I h;refine Call_ (jD I J hm L (PyProof.Rows.callWith_type1 (aR (M pos aa s σ H _ I h) fun us c ⟨vs,H1,I1,o,f⟩=>?_) (by rw[hs,l]) (by rw[l];rfl)));obtain⟨i,j,e,⟨xs,f⟩,⟨ys,A⟩,q⟩:=f;subst e;obtain⟨u,O,rfl,C,D⟩:=vals2 o;cases C;cases D;obtain⟨E,_,p1,_⟩:=I1.tuple f;obtain⟨G,_,p2,_⟩:=I1.tuple A;refine callType_new F.called_zip ξ (F.typeCall_zip_2 _ _) (F.newCall_zip_2 _ _) (fun obj=>F.args_object_init_3 obj _ _) F.entry_zip_new (FO i j E.toArray G.toArray) ⟨p1,p2,fun h' g r v w x y=>?_⟩;refine⟨⟨_,g,rfl⟩,wpAny_pyIter_zip g ?_⟩;have N:Inv X aa σ H1 {c with heap:=h'}:=I1.kept (t':=c.toks) y;refine⟨c⁻¹+4,[c⁻¹+4,c⁻¹+2,c⁻¹+3,c⁻¹,c⁻¹+1],_,_,H1,rfl,N,FN i j _ _ _ _ _ (by refine⟨?_,?_,?_,?_,?_,?_,?_,?_,?_,?_⟩<;>(intro z;have P:(_:Nat)=_:=z;omega)),⟨g,r,⟨_,_,v⟩,w,x⟩,fun b hb=>?_,q⟩;have d:c⁻¹<=b:=by
  simp only[List.mem_cons,List.not_mem_nil,or_false] at hb;rcases hb with rfl|rfl|rfl|rfl|rfl
  ·exact Nat.le_add_right _ _
  ·exact Nat.le_add_right _ _
  ·exact Nat.le_add_right _ _
  ·exact Ag _
  ·exact Nat.le_add_right _ _
 exact I1.fpOk d (I1.hok.fresh d)
def dM:∀{bs:List Bool}{us:List Value},Vals (bs.map V.bl) us->LSm.BoolsAre us bs
 |[],_,.nil=>.nil
 |b::bs,_,.cons r t=>by cases r;exact .cons b (dM t)
def oj(hc:X.calm=true):cE X (.builtin "all") (fun xs H Q=>∃(l:Addr)(bs:List Bool),xs=[.ref l]/\SqL X.K H l (bs.map V.bl)/\Q (.bl (bs.all id)) H):=by
 intro aa s σ H xs us Q I r h;obtain⟨l,bs,rfl,hq,q⟩:=h;obtain⟨u,rfl,j⟩:=vals1 r;cases j;obtain⟨a,o,p1,_⟩:=I.list hq;have p:=I.ok.hd hc;have c:=p1.isList;have hb:=dM o;have d:l<s⁻¹:=by obtain⟨_,e,_⟩:=c;exact Ah e
 refine call_all_walk (wpAny_pyIter_list c ?_);refine⟨s⁻¹,[s⁻¹,l],[s⁻¹],a.toArray.size,_,_,fun i=>(bs[i]?).getD true,rfl,Walks.list (A:=X.A.in1) p _ l (Ar d) a.toArray,
  ⟨⟨_,Ax _ rfl,rfl,rfl⟩,c.push _⟩,fun i v s' w x g f=>?_,fun h' tk hk=>?_⟩
 ·obtain⟨b,e,rfl⟩:=hb.get i v (by simpa using g)
  simp only[e,Option.getD_some] at f;exact wpAny_truthy_bool f
 ·have e:((List.range a.toArray.size).all fun i=>(bs[i]?).getD true)=bs.all id:=by
   rw[Aj,hb.length];exact LSm.range_all bs
  rw[e];exact⟨.bl _,H,I.kept (LSm.kept_iter hk),rfl,q⟩
end
section
variable{K:Ae}{a:Addr}{xs:List V}{g:TG}{tc:TT}{te:TE}{σ:St}{H1:Hp}{Q:VK}{D:Addr}
def vp(n:Nat)(a:Nat->St->List V->Hp->Prop)(i m:Nat)(σ:St)(H:Hp):Prop:=m=n-i/\i<=n/\∃ys,ys.length<=i/\a i σ ys H
def fm(n:Nat)(d:Nat->St->List V->Hp->Prop)(D:Addr)(i:Nat)(c:St):VK:=fun y b=>∃ys a,b D=some (.lst ys)/\ys.length<sizeLine/\a<n-i/\vp n d (i+1) a c (upd b D (.lst (ys++[y])))
def de(n:Nat)(c:Nat->St->List V->Hp->Prop)(i:Nat)(b:St)(d:Hp):Prop:=∃a,a<n-i/\vp n c (i+1) a b d
def bR{n:Nat}{c:Nat->St->List V->Hp->Prop}{i:Nat}{b:St}{ys:List V}{y:V}{a:Hp}(d:n<=sizeLine)(hi:i<n)(f:ys.length<=i)(e:a D=some (.lst ys))(p:c (i+1) b (ys++[y]) (upd a D (.lst (ys++[y])))):fm n c D i b y a:=
 ⟨ys,n-(i+1),e,ω,ω,rfl,hi,ys++[y],by simp;omega,p⟩
def gj{n:Nat}{b:Nat->St->List V->Hp->Prop}{i:Nat}{a:St}{ys:List V}{c:Hp}(hi:i<n)(d:ys.length<=i)(p:b (i+1) a ys c):de n b i a c:=
 ⟨n-(i+1),ω,rfl,hi,ys,ω,p⟩
def lZ{J:It}(n:Nat)(a:Nat->St->List V->Hp->Prop)(l:a 0 σ [] (upd H1 D (.lst [])))(o:∀σ ys H,a n σ ys H->J.stop n H)(q:∀i σ ys H,i<n->a i σ ys H->J.go i H)(hs:∀i σ ys H x H',i<n->ys.length<=i->a i σ ys H->J.yld i H x H'->g x σ H' fun d r=>tc d r fun b h=>if b=true then te d h (fm n a D i d) else de n a i d h)(hd:∀σ ys H,a n σ ys H->Q (.ref D) H):cF J g tc te σ H1 D Q:=by
 refine⟨vp n a,⟨n,by simp,AT _,[],Ag _,l⟩,?_⟩;rintro i m f H2 ⟨rfl,hi,ys,j,p⟩
 by_cases c:i<n
 ·exact .inr ⟨q i f ys H2 c p,fun x s y=>hs i f ys H2 x s c j p y⟩
 ·have e:i=n:=ω
  subst e;exact .inl ⟨o f ys H2 p,hd f ys H2 p⟩
def zV(c:Nat->St->List V->Hp->Prop)(j:c 0 σ [] (upd H1 D (.lst [])))(f:∀i σ ys H,c i σ ys H->SqL K H a xs)(hs:∀i σ ys H x,xs[i]?=some x->i<xs.length->ys.length<=i->c i σ ys H->g x σ H fun d l=>tc d l fun b h=>if b=true then te d h (fm xs.length c D i d) else de xs.length c i d h)(hd:∀σ ys H,c xs.length σ ys H->Q (.ref D) H):cF (et K a) g tc te σ H1 D Q:=by
 refine lZ xs.length c j (fun σ ys H p=>⟨xs,f _ _ _ _ p,Ag _⟩) (fun i σ ys H hi p=>⟨xs,xs[i],f _ _ _ _ p,by simp[hi]⟩) (fun i σ ys H x H' hi hy p y=>?_) hd;obtain⟨e,y⟩:=y;subst e;exact hs i σ ys _ x (y xs (f _ _ _ _ p)) hi hy p
def yQ(c:Nat->St->List V->Hp->Prop)(j:c 0 σ [] (upd H1 D (.lst [])))(f:∀i σ ys H,c i σ ys H->SqT K H a xs)(hs:∀i σ ys H x,xs[i]?=some x->i<xs.length->ys.length<=i->c i σ ys H->g x σ H fun d l=>tc d l fun b h=>if b=true then te d h (fm xs.length c D i d) else de xs.length c i d h)(hd:∀σ ys H,c xs.length σ ys H->Q (.ref D) H):cF (iF K a) g tc te σ H1 D Q:=by
 refine lZ xs.length c j (fun σ ys H p=>⟨xs,f _ _ _ _ p,Ag _⟩) (fun i σ ys H hi p=>⟨xs,xs[i],f _ _ _ _ p,by simp[hi]⟩) (fun i σ ys H x H' hi hy p y=>?_) hd;obtain⟨e,y⟩:=y;subst e;exact hs i σ ys _ x (y xs (f _ _ _ _ p)) hi hy p
def FQ{e f:Addr}{ys:List V}(a:Nat->St->List V->Hp->Prop)(r:a 0 σ [] (upd H1 D (.lst [])))(c:∀i σ zs H,a i σ zs H->SqT K H e xs/\SqT K H f ys)(hs:∀i σ zs H p x y,xs[i]?=some x->ys[i]?=some y->i<min xs.length ys.length->zs.length<=i->a i σ zs H->H p=none->g (.ref p) σ (upd H p (.tup [x,y])) fun d s=>tc d s fun b h=>if b=true then te d h (fm (min xs.length ys.length) a D i d) else de (min xs.length ys.length) a i d h)(hd:∀σ zs H,a (min xs.length ys.length) σ zs H->Q (.ref D) H):cF (vj K e f) g tc te σ H1 D Q:=by
 refine lZ (min xs.length ys.length) a r (fun σ zs H p=>⟨xs,ys,(c _ _ _ _ p).1,(c _ _ _ _ p).2,rfl⟩) (fun i σ zs H hi p=>⟨xs,ys,(c _ _ _ _ p).1,(c _ _ _ _ p).2,hi⟩) (fun i σ zs H v H' hi hy p y=>?_) hd;obtain⟨j,x,l,rfl,hp,rfl,o,q⟩:=y;exact hs i σ zs H j x l (o xs (c _ _ _ _ p).1) (q ys (c _ _ _ _ p).2) hi hy p hp
end
end L2
end
section
namespace Dk
open PySem PySem.Spec PyProof.Rows
def IsD(h:Heap)(d:Addr)(es:Array DictEntry)(ep:Nat):Prop:=∃o,h.get? d=some o/\o.ExactDict/\o.data=.dict es ep
def IsD.at{h h':Heap}{d:Addr}{es:Array DictEntry}{ep:Nat}(x:IsD h d es ep)(k:∀o,h.get? d=some o->h'.get? d=some o):IsD h' d es ep:=let ⟨o,ho,r⟩:=x;⟨o,k o ho,r⟩
def IsD.lt{h:Heap}{d:Addr}{es:Array DictEntry}{ep:Nat}(x:IsD h d es ep):d<h.objs.size:=let ⟨_,ho,_⟩:=x;Ah ho
section
variable{prog:Program}{w:World}{A:Around}{E:Ω}{s:Shared}{it d:Addr}{i ep:Nat}{es:Array DictEntry}
def IsD.typeIs(x:IsD s.heap d es ep):s.TypeIs (.ref d) "dict":=let ⟨o,ho,r⟩:=x;⟨o,ho,r.1.1⟩
def iter{Q:Ω}(hd:(d==sysModules)=false)(hm:IsD s.heap d es ep)(e:Q (.ref s⁻¹) {s with heap:=s.heap.push {cls:=.type "dict_keyiterator",data:=.fields #[.ref d,.int 0 0,.int es.size 0,.int ep 0]}}):wpAny (model prog w) A (pyIter (.ref d)) Q E s:=by
 have a:=hm.typeIs;obtain⟨o,b,hc,c⟩:=id hm;refine wpAny_pyIter_slot a PySem.F.slot_dict_iter (A3 PySem.F.slot_dict_iter a PySem.F.entry_dict_iter ?_ (PySem.F.args_dict_iter_1 _));unfold Builtin.«dict.__iter__»;refine Aa ?_;unfold Builtin.Dict.dictSlotNone;refine Aa (wpAny_notOrdered_dict a ?_);show wpAny _ _ (pure (Value.ref d)) _ _ s;refine Ac ?_;show wpAny _ _ (Builtin.Dict.showsAll d >>= _) _ _ s;unfold Builtin.Dict.showsAll;rw[if_neg (by rw[hd];exact As)];refine Aa (Ac ?_);refine Aa (AY b c ?_);refine Aa (wpAny_dictEpoch b c ?_);refine Aa (AS (Ac ⟨_,rfl,"dict_keyiterator",_,⟨_,Ax _ rfl,rfl⟩,PySem.F.slot_dict_keyiterator_next.lookup,?_⟩))
 simpa[rawInt] using e
def item{Q:Option Value->Shared->Prop}(a:s.heap.IsKeyIter it d i es.size ep)(hm:IsD s.heap d es ep)(hx:i<es.size)(h:∀h',h'.IsKeyIter it d (i+1) es.size ep->AR it s.heap h'->Q (some es[i].key) {s with heap:=h'}):wpAny (model prog w) A (pyNext (.ref it)) Q E s:=by
 obtain⟨o,b,hc,hd⟩:=id a;obtain⟨j,c,l,e⟩:=id hm;unfold pyNext;refine Aa (wpAny_attempt (wpAny_callSpecial?_slot (name:=Str.ofString "__next__") a.typeIs PySem.F.slot_dict_keyiterator_next
  (A3 PySem.F.slot_dict_keyiterator_next a.typeIs PySem.F.entry_dict_keyiterator_next ?_ (PySem.F.args_dict_keyiterator_next_1 _))))
 refine Aa (Ac ?_);refine Aa ?_;refine Aa ?_
 first|refine Aa (wpAny_typeNameOfWhole_keyiter a.typeIs (Ac ?_))|refine Aa (wpAny_typeNameOf_keyiter a.typeIs (Ac ?_))
 refine Aa (wpAny_fieldsOf b hd ?_);have g:Builtin.Dict_items.ownsTuple "dict_keyiterator"=false:=ξ
 simp only[g,An,if_false];show wpAny _ _ (if(Value.ref d==Value.none)=true then _ else _) _ _ s;rw[if_neg (show ¬((Value.ref d==Value.none)=true) from As)];refine Aa (Ac ?_);refine Aa (AY c e ?_);rw[if_neg (by simp)];refine Aa (Ac ?_);refine Aa (wpAny_dictEpoch c e ?_);rw[if_neg (by simp)];refine Ac ?_;simp only[show ¬((i:Int)<0) from ω,if_false,Int.toNat_natCast,Array.getElem?_eq_getElem hx];refine Aa ?_
 first|refine Aa (wpAny_typeNameOfWhole_keyiter a.typeIs (Ac ?_))|refine Aa (wpAny_typeNameOf_keyiter a.typeIs (Ac ?_))
 refine Aa (wpAny_isOneOf_keyiter a.typeIs ?_);show wpAny _ _ (setField (.ref it) 1 (rawInt ((i:Int)+1)) >>= _) _ _ s;refine Aa (A8 b hd (by simp) ?_);have f:(s.heap.update it (A5 (·.setIfInBounds 1 (rawInt ((i:Int)+1))))).IsKeyIter it d (i+1) es.size ep:=
  ⟨_,Heap.get?_update_self _ b (Obj.isFreed_of_fields (A0 hd _)),(Obj.cls_mapFields ..).trans hc,by rw[A0 hd];simp[rawInt]⟩
 refine Aa (AU ?_);refine Aa (wpAny_isOneOf_keyiter (s:={s with heap:=s.heap.update it (A5 (·.setIfInBounds 1 (rawInt ((i:Int)+1))))}) f.typeIs ?_);show wpAny _ _ (pure es[i].key) _ _ _;exact Ac (Ac ⟨_,rfl,Ac (h _ f (A1 ..))⟩)
def done{Q:Option Value->Shared->Prop}(i:A.handled=none)(c:s.heap.IsKeyIter it d es.size es.size ep)(hm:IsD s.heap d es ep)(j:∀h',Heap.ExtBut it s.heap h'->Q none {s with heap:=h'}):wpAny (model prog w) A (pyNext (.ref it)) Q E s:=by
 obtain⟨o,e,hc,hd⟩:=id c;obtain⟨l,f,p,g⟩:=id hm;unfold pyNext;refine Aa (wpAny_attempt (wpAny_callSpecial?_slot (name:=Str.ofString "__next__") c.typeIs PySem.F.slot_dict_keyiterator_next
  (A3 PySem.F.slot_dict_keyiterator_next c.typeIs PySem.F.entry_dict_keyiterator_next ?_ (PySem.F.args_dict_keyiterator_next_1 _))))
 refine Aa (Ac ?_);refine Aa ?_;refine Aa ?_
 first|refine Aa (wpAny_typeNameOfWhole_keyiter c.typeIs (Ac ?_))|refine Aa (wpAny_typeNameOf_keyiter c.typeIs (Ac ?_))
 refine Aa (wpAny_fieldsOf e hd ?_);have h:Builtin.Dict_items.ownsTuple "dict_keyiterator"=false:=ξ
 simp only[h,An,if_false];show wpAny _ _ (if(Value.ref d==Value.none)=true then _ else _) _ _ s;rw[if_neg (show ¬((Value.ref d==Value.none)=true) from As)];refine Aa (Ac ?_);refine Aa (AY f g ?_);rw[if_neg (by simp)];refine Aa (Ac ?_);refine Aa (wpAny_dictEpoch f g ?_);rw[if_neg (by simp)];refine Ac ?_;simp only[show ¬((es.size:Int)<0) from ω,if_false,Int.toNat_natCast,Array.getElem?_eq_none (Ag es.size)];refine Aa ?_
 first|refine Aa (wpAny_typeNameOfWhole_keyiter c.typeIs (Ac ?_))|refine Aa (wpAny_typeNameOf_keyiter c.typeIs (Ac ?_))
 show wpAny _ _ (setField (.ref it) 0 .none >>= _) _ _ s;refine Aa (A8 e hd (by simp) ?_);show wpAny _ _ (newExc (.type "StopIteration") [] >>= _) _ _ _;refine Aa ?_;simp only[newExc,newTuple];refine Aa (AS ?_ (by size_fits));refine Aa (m:=firstArgMember _ _) (wpAny_of_eq (a:=Value.none) (by first|rfl|(simp only[firstArgMember];rfl)) ?_);refine AS ?_ (by size_fits);simp only[raiseNew];refine Aa (wpAny_handled ?_);rw[show A.in1.handled=none from i];refine Aa (Ac (wpAny_throw ?_));refine Aa (wpAny_isInstance (T:="StopIteration") (b:=true) ⟨_,Ax _ rfl,rfl⟩ isSubtype_stop ?_);exact Ac (j _ (((A1 ..).extBut.push _).push _))
def walks(l:A.handled=none)(I d:Addr)(c:d≠I)(es:Array DictEntry)(ep:Nat):Walks prog w A I [I,d] [I] es.size (fun i v=>∃e,es[i]?=some e/\v=e.key) (fun i h=>h.IsKeyIter I d i es.size ep/\IsD h d es ep) where
 sub:=fun b hb=>by simp at hb ⊢;exact .inl hb
 frame:=fun i h h' st k=>⟨let ⟨o,ho,r⟩:=st.1;⟨o,k I (by simp) o ho,r⟩,st.2.at fun o e=>k d (by simp) o e⟩
 item:=fun i s Q E hi st a=>item st.1 st.2 hi fun h' g f=>a _ h' s.toks ⟨es[i],by simp[hi],rfl⟩ ⟨g,st.2.at fun o e=>(f.2 d c).trans e⟩ fun b o hb e=>(f.2 b (fun z=>hb (by simp[z]))).trans e
 done:=fun s Q E st a=>done l st.1 st.2 fun h' j=>a h' s.toks fun b o hb e=>j b o (fun z=>hb (by simp[z])) e
 self:=fun i s Q E st a=>wpAny_pyIter_keyiter st.1 a
def src(lo:(d==sysModules)=false):PySem.W.KdlSrc prog w "dict" d d es.size (fun i v=>∃e,es[i]?=some e/\v=e.key) (fun h=>IsD h d es ep) where
 type:=fun _ hm=>hm.typeIs
 there:=fun _ hm=>⟨hm.lt,hm.lt⟩
 keep:=fun _ _ hm hk=>hm.at fun o e=>hk d (.inl rfl) o e
 notList:=ξ
 notTuple:=ξ
 hint:=fun _ _ _ _ hm hq=>PySem.W.kdl_hint_dict hm.typeIs hq
 iter:=fun _ s a hm=>⟨_,_,(fun _ _ hq=>iter lo hm hq),walks a _ d (Ar hm.lt) es ep,⟨⟨_,Ax _ rfl,rfl,rfl⟩,hm.at fun o e=>Ad _ e⟩⟩
end
end Dk
namespace L2
open PySem PySem.Spec PyProof.Rows
section
variable{X:Cx}
def FR{P:Program}{w:World}{k:Key}{u:Value}(h:(zx P w).is k u=true):RelV (kV k) u:=by
 rcases aH h with ⟨i,t,rfl,rfl⟩|⟨x,t,rfl,rfl⟩
 ·exact⟨t,rfl⟩
 ·exact⟨t,rfl⟩
def yR(hc:X.calm=true):cE X (.type "list") (fun xs H Q=>∃a kvs,xs=[.ref a]/\H a=some (.dT kvs)/\
  ∀(bs:List Addr),Paired (fun(p:List Key×V) b=>H b=some (.tup (p.1.map kV))) kvs bs->∀l,H l=none->Q (.ref l) (upd H l (.lst (bs.map V.ref)))):=by
 intro aa s σ H xs us Q I r h;obtain⟨a,kvs,rfl,hq,q⟩:=h;obtain⟨u,rfl,j⟩:=vals1 r;cases j;obtain⟨z,y,ys,c,o,es,ep,h1,h2,v,h4,E⟩:=(show zA X.prog X.w H s.heap a (.dT kvs) from I.hok a _ hq);have d:es.size=kvs.length:=by
  have:=congrArg List.length h4;rw[Ab,<-Paired.length c] at this
  simpa using this
 refine PySem.W.kdl_call (Dk.src (ep:=ep) (es:=es) y) (I.ok.hd hc) ⟨o,h1,h2,v⟩ (by rw[d];exact z) fun h' tk acc f g e it=>?_;obtain⟨n1,n2⟩:=it;have A:Paired (fun(p:List Key×V) b=>H b=some (.tup (p.1.map kV))) kvs (ys.map (·.2.1)):=by
  have:∀{l:List (List Key×V)}{m:List (List Key×Addr×Value)},KT H l m->Paired (fun(p:List Key×V) b=>H b=some (.tup (p.1.map kV))) l (m.map (·.2.1)):=by
   intro l m q
   induction q with
   |nil=>exact .nil
   |cons hq t ih=>exact .cons hq.2.1 ih
  exact this c
 have C:acc.toList=(ys.map (·.2.1)).map Value.ref:=by
  apply List.ext_getElem?;intro i;have hy:ys.length=acc.size:=by rw[n1,d];exact(Paired.length c).symm
  by_cases hi:i<acc.size
  ·obtain⟨x,g1,g2⟩:=n2 i acc[i] (by simp[hi])
   have g3:es.toList[i]?=some x:=by simpa using g1
   rw[h4,Ao] at g3;have g4:ys[i]?=some ys[i]:=by simp[hy,hi]
   rw[g4] at g3;simp only[A7,Option.some.injEq] at g3;simp only[Ao,g4,A7,AM,Array.getElem?_eq_getElem hi];rw[g2,<-g3]
   rfl
  ·have g1:acc.toList.length<=i:=by simp;omega
   have g2:((ys.map (·.2.1)).map Value.ref).length<=i:=by simp[hy];omega
   rw[List.getElem?_eq_none g1,List.getElem?_eq_none g2]
 have D:Vals ((ys.map (·.2.1)).map V.ref) acc.toList:=by
  rw[C];generalize ys.map (·.2.1)=bs
  induction bs with
  |nil=>exact .nil
  |cons b bs ih=>exact .cons rfl ih
 refine⟨.ref s⁻¹,_,I.laid g (Ag _) (show zA X.prog X.w _ h' _ (.lst ((ys.map (·.2.1)).map V.ref)) from⟨?_,acc.toList,f,D,by simpa using e⟩),rfl,q _ A _ (I.hok.fresh (Ag _))⟩;simp only[Ab];rw[<-Paired.length c];exact z
def FS(hc:X.calm=true):cE X (.type "list") (fun xs H Q=>∃a kvs,xs=[.ref a]/\H a=some (.dK kvs)/\∀l,H l=none->Q (.ref l) (upd H l (.lst (kvs.map fun b=>kV b.1)))):=by
 intro aa s σ H xs us Q I r h;obtain⟨a,kvs,rfl,hq,q⟩:=h;obtain⟨u,rfl,g⟩:=vals1 r;cases g;obtain⟨z,y,vs,c,dd⟩:=yu I.hok hq;obtain⟨ep,dd⟩:=dd.dictAt;have j:=c.length;refine PySem.W.kdl_call (PySem.W.kdl_dict (knd:=zx X.prog X.w) (kvs:=vs) (ep:=ep) y) (I.ok.hd hc) dd (by rw[<-j];exact z) fun h' tk acc d f e it=>?_;obtain⟨n1,n2⟩:=it;have o:Vals (kvs.map fun b=>kV b.1) acc.toList:=by
  have key:∀{l:List (Key×V)}{m:List (Key×Value)}{as:List Value},KV l m->as.length=m.length->(∀(i:Nat) v,as[i]?=some v->∃k x,m[i]?=some (k,x)/\(zx X.prog X.w).is k v=true)->Vals (l.map fun b=>kV b.1) as:=by
   intro l m as q
   induction q generalizing as with
   |nil=>intro h1 _;cases as with
    |nil=>exact .nil
    |cons _ _=>simp at h1
   |@cons p q' ps qs hq t ih=>
    intro h1 h2;cases as with
    |nil=>simp at h1
    |cons v as=>
     obtain⟨k,x,g1,g2⟩:=h2 0 v rfl;simp only[List.getElem?_cons_zero,Option.some.injEq] at g1;refine .cons ?_ (ih (by simpa using h1) fun i v e=>by simpa using h2 (i+1) v (by simpa using e));have:p.1=k:=by rw[hq.1,g1]
     show RelV (kV p.1) v;rw[this];exact FR g2
  exact key c (by simpa using n1) fun i v e=>n2 i v (by simpa using e)
 refine⟨.ref s⁻¹,_,I.laid f (Ag _) (show zA X.prog X.w _ h' _ (.lst (kvs.map fun b=>kV b.1)) from⟨?_,acc.toList,d,o,by simpa using e⟩),rfl,q _ (I.hok.fresh (Ag _))⟩
 simpa using z
end
end L2
end
section
namespace L2
open PySem PySem.Spec PyProof.Rows
def Tp(H:Hp)(a:Addr)(ps:List Int):Prop:=H a=some (.tup (ps.map V.int))
abbrev Tps(H:Hp)(as:List Addr)(ac:Ξ):Prop:=Paired (fun a ps=>Tp H a ps) as ac
def Same.tp{H H':Hp}{a:Addr}{ps:List Int}(e:Same H H')(h:Tp H a ps):Tp H' a ps:=e _ _ h
def Same.tps{H H':Hp}{as:List Addr}{a:Ξ}(e:Same H H')(h:Tps H as a):Tps H' as a:=Paired.mapP h fun _ _ q=>e.tp q
def Same.new{H:Hp}{a:Addr}{o:HO}(h:H a=none):Same H (upd H a o):=fun b u e=>by rw[zh (zg e h)];exact e
def Same.then{H H1:Hp}{a:Addr}{o:HO}(e:Same H H1)(h:H a=none):Same H (upd H1 a o):=fun b u q=>by rw[zh (zg q h)];exact e b u q
def Tps.length{H:Hp}{as:List Addr}{a:Ξ}(h:Tps H as a):as.length=a.length:=Paired.length h
def Tps.get{H:Hp}:∀{as:List Addr}{b:Ξ}{i:Nat}{a:Addr},Tps H as b->as[i]?=some a->∃ps,b[i]?=some ps/\Tp H a ps
 |_,_,_,_,.nil,e=>by simp at e
 |_,_,0,_,.cons r _,e=>by simp at e;subst e;exact⟨_,rfl,r⟩
 |_,_,i+1,a,.cons _ t,e=>by
  obtain⟨u,h1,h2⟩:=Tps.get (i:=i) (a:=a) t (by simpa using e);exact⟨u,by simpa using h1,h2⟩
def Tps.snoc{H:Hp}{as:List Addr}{b:Ξ}{a:Addr}{ps:List Int}(h:Tps H as b)(q:Tp H a ps):Tps H (as++[a]) (b++[ps]):=by
 induction h with
 |nil=>exact .cons q .nil
 |cons r t ih=>exact .cons r ih
def Tps.append{H:Hp}{as bs:List Addr}{a b:Ξ}(h:Tps H as a)(q:Tps H bs b):Tps H (as++bs) (a++b):=by
 induction h with
 |nil=>exact q
 |cons r t ih=>exact .cons r ih
def Tps.take{H:Hp}:∀{as:List Addr}{a:Ξ}(n:Nat),Tps H as a->Tps H (as.take n) (a.take n)
 |_,_,0,_=>.nil
 |_,_,_+1,.nil=>.nil
 |_,_,n+1,.cons r t=>.cons r (Tps.take n t)
def Tps.drop{H:Hp}:∀{as:List Addr}{a:Ξ}(n:Nat),Tps H as a->Tps H (as.drop n) (a.drop n)
 |_,_,0,r=>r
 |_,_,_+1,.nil=>.nil
 |_,_,n+1,.cons _ t=>Tps.drop n t
def a_:∀{as:List Addr}{us:List Value},Vals (as.map V.ref) us->us=as.map Value.ref
 |[],_,.nil=>rfl
 |a::as,_,.cons r t=>by cases r;rw[a_ t];rfl
def vr{b:Type}(f:b->Addr):∀l:List b,Vals (l.map fun q=>V.ref (f q)) (l.map fun q=>Value.ref (f q))
 |[]=>.nil
 |a::l=>.cons rfl (vr f l)
section
variable{X:Cx}
def yS{prog:Program}{w:World}{h:Heap}{c:Addr}{cs:List Value}{a:List Int}(hc:IsTup h c cs.toArray)(hi:IntsAre cs a):AH (zx prog w) h (a.map Sum.inl) c:=by
 obtain⟨o,e,b,k,d⟩:=hc;refine⟨o,cs.toArray,k,e,b,d,?_⟩;have:∀{cs:List Value}{a:List Int},IntsAre cs a->ItemsAre (zx prog w) (a.map Sum.inl) cs:=by
  intro cs a hi
  induction hi with
  |nil=>exact .nil
  |cons n t h ih=>exact .cons (rZ prog w n t) ih
 simpa using this hi
def fG{ps a:List Int}:(ps.map Sum.inl:List Key)=a.map Sum.inl↔ps=a:=
 ⟨fun z=>(List.map_inj_right (f:=(Sum.inl:Int->Key)) (fun x y h=>Sum.inl.inj h)).mp z,fun z=>by rw[z]⟩
def FT{aa:Ψ}{σ:St}{H:Hp}{s:Shared}{A:Around}{a b:Addr}{ps c:List Int}(I:Inv X aa σ H s)(f:Tp H a ps)(hb:Tp H b c)(hu:A.units<cLine):SeqAt.EqAt A s (.ref a) (.ref b) (decide (ps=c)):=by
 intro prog w E Q h;obtain⟨g,d,p1,_⟩:=I.tuple (SqT.of f);obtain⟨i,e,p2,_⟩:=I.tuple (SqT.of hb);refine wpAny_eqBool_tuple (knd:=zx prog w) hu (yS p1 (intsAre_of d)) (yS p2 (intsAre_of e)) ?_;rw[show decide ((ps.map Sum.inl:List Key)=c.map Sum.inl)=decide (ps=c) from by simp only[fG]];exact h
def yT:R2:=fun x y H Q=>∃a b xs ys,x=.ref a/\y=.ref b/\H a=some (.tup xs)/\H b=some (.tup ys)/\xs.length+ys.length<=sizeLine/\∀p H',Same H H'->H' p=some (.tup (xs++ys))->Q (.ref p) H'
def yU:bT X (binaryOp .Add) yT:=by
 intro aa s σ H x y v u Q I p r h;obtain⟨a,b,xs,ys,rfl,rfl,e,hb,f,q⟩:=h;cases p;cases r;obtain⟨E,c,p1,_⟩:=I.tuple (SqT.of e);obtain⟨w,d,p2,_⟩:=I.tuple (SqT.of hb)
 by_cases hx:xs=[]
 ·subst hx
  have e1:=c.nil_iff.mpr rfl;subst e1;obtain⟨⟨cls,dd,data,A⟩,g,hc,n,hd⟩:=id p1;obtain⟨⟨G,C,data2,D⟩,i,j,n2,l⟩:=id p2;simp only at hc hd j l;subst hc hd j l;exact concat_meets ⟨_,g,rfl⟩ ⟨_,i,rfl⟩ noFill_tuple_add seq_tuple_add PySem.F.slot_tuple_add PySem.F.entry_tuple_add (PySem.F.args_tuple_add_2 _ _)
   (tuple_addW0 a b (List.toArray []) w.toArray n n2 dd C A D (by simp)) ⟨g,i,.ref b,H,I,rfl,q b H (Same.refl H) (by simpa using hb)⟩
 ·refine HT.Er p1 p2 (fun z=>hx (c.nil_iff.mp z)) (fun z=>⟨.ref a,H,I,rfl,q a H (Same.refl H) ?_⟩) (fun z=>?_) (by rw[<-c.length,<-d.length];exact f)
  ·rw[d.nil_iff.mp z,List.append_nil];exact e
  ·have hf:=I.hok.fresh (Ag s⁻¹)
   refine⟨.ref s⁻¹,_,I.laid (t':=s.toks) (o:=.tup (xs++ys)) (fun b ob q=>Ad _ q) (Ag _) ?_,rfl,q _ _ (Same.new hf) al⟩;exact⟨by rw[Aq];exact f,_,c.append d,IsTup.new _ _⟩
def vu(c:Bool)(K:Ae):R2:=fun x y H Q=>∃a l ps as b,x=.ref a/\y=.ref l/\Tp H a ps/\SqL K H l (as.map V.ref)/\Tps H as b/\Q (.bl (if c then !decide (ps∈b) else decide (ps∈b))) H
def iJ(H:Hp)(ps:List Int)(u:Value):Bool:=match u with
 |.ref b=>(match H b with|some (.tup xs)=>decide (xs=ps.map V.int)|_=>false)
 |_=>false
def FU{ps a:List Int}:(ps.map V.int:List V)=a.map V.int↔ps=a:=
 ⟨fun z=>(List.map_inj_right (f:=V.int) (fun x y h=>V.int.inj h)).mp z,fun z=>by rw[z]⟩
def vG{H:Hp}{b:Addr}{ps a:List Int}(h:Tp H b a):iJ H ps (.ref b)=decide (a=ps):=by
 show(match H b with|some (.tup xs)=>decide (xs=ps.map V.int)|_=>false)=_;rw[show H b=some (.tup (a.map V.int)) from h];simp only[FU]
def FV{H:Hp}{ps:List Int}{as:List Addr}{b:Ξ}(h:Tps H as b):(as.map Value.ref).any (iJ H ps)=decide (ps∈b):=by
 induction h with
 |nil=>simp
 |@cons a qs as b r t ih=>
  rw[AE,List.any_cons,ih,vG r]
  by_cases e:qs=ps
  ·subst e;simp
  ·have:¬ps=qs:=fun z=>e z.symm
   simp[e,this]
def yV{aa:Ψ}{σ:St}{H:Hp}{s:Shared}{A:Around}{a:Addr}{ps:List Int}(I:Inv X aa σ H s)(d:Tp H a ps)(hu:A.units<cLine):∀{as:List Addr}{c:Ξ},Tps H as c->∀u∈as.map Value.ref,SeqAt.EqAt A s u (.ref a) (iJ H ps u):=by
 intro as c h
 induction h with
 |nil=>intro u hu;simp at hu
 |@cons b qs as c r t ih=>
  intro u hm;rw[AE] at hm;rcases List.mem_cons.mp hm with rfl|hm
  ·rw[vG r];exact FT I r d hu
  ·exact ih u hm
def yW(hu:X.A.in1.units<cLine):bT X (compareOp .NotIn) (vu true X.K):=by
 intro aa s σ H x y v u Q I b c h;obtain⟨a,l,ps,as,g,rfl,rfl,d,e,hp,q⟩:=h;cases b;cases c;obtain⟨i,r,f,j⟩:=I.list e;obtain rfl:=a_ r;refine SeqAt.notIn_listAt (iJ H ps) f.isList (fun w hw=>yV I d hu hp w (by simpa using hw)) ⟨.bl _,H,I,rfl,?_⟩;rw[show(as.map Value.ref).toArray.any (iJ H ps)=(as.map Value.ref).any (iJ H ps) by simp,FV hp];exact q
def vJ{aa:Ψ}{σ:St}{H:Hp}{s:Shared}{a:Addr}{ps:List Int}(I:Inv X aa σ H s)(c:Tp H a ps):Reads s.heap (.ref a) (.tuple (ps.map PyData.int)) []:=by
 obtain⟨d,r,p,_⟩:=I.tuple (SqT.of c);obtain⟨o,b,hc,n,hd⟩:=id p;exact .tuple b hc hd ((PySem.W.ke_carried (intsAre_of r)).reads s.heap)
def FW{aa:Ψ}{σ:St}{H:Hp}{s:Shared}(I:Inv X aa σ H s):∀{as:List Addr}{a:Ξ},Tps H as a->ReadsAll s.heap (as.map Value.ref) (a.map fun ps=>PyData.tuple (ps.map PyData.int)) []:=by
 intro as a h
 induction h with
 |nil=>exact .nil
 |cons r t ih=>exact .cons (as:=[]) (bs:=[]) (vJ I r) ih
def yX{aa:Ψ}{σ:St}{H:Hp}{s:Shared}{l:Addr}{as:List Addr}{a:Ξ}(I:Inv X aa σ H s)(c:SqL X.K H l (as.map V.ref))(h:Tps H as a):Reads s.heap (.ref l) (.list (a.map fun ps=>PyData.tuple (ps.map PyData.int))) [l]:=by
 obtain⟨d,r,p,_⟩:=I.list c;obtain rfl:=a_ r;obtain⟨o,b,hc,n,hd⟩:=p.isList;exact .list b hc hd (by simpa using FW I h)
def yY(ps:List Int):PyData.canLay0 (.tuple (ps.map PyData.int))=true:=by simp[PyData.canLay0,PySem.W.ke_canLayAll0]
def yZ(ps:List Int):PyData.depth (.tuple (ps.map PyData.int))=1:=by simp[PyData.depth,PySem.W.ke_depthAll]
def y_(ps:List Int):SeqAt.shaped (.tuple (ps.map PyData.int))=true:=by
 simp[SeqAt.shaped,yY,yZ]
def y':∀a:Ξ,PyData.canLayAll0 (a.map fun ps=>PyData.tuple (ps.map PyData.int))=true
 |[]=>rfl
 |ps::r=>by rw[AE,PyData.canLayAll0,yY,y' r];rfl
def zc:∀a:Ξ,PyData.depthAll (a.map fun ps=>PyData.tuple (ps.map PyData.int))<=1
 |[]=>AT _
 |ps::r=>by rw[AE,PyData.depthAll,yZ];exact Nat.max_le.mpr ⟨Ag _,zc r⟩
def zz(a:Ξ):SeqAt.shaped (.list (a.map fun ps=>PyData.tuple (ps.map PyData.int)))=true:=by
 have:=zc a;have e:PyData.depth (.list (a.map fun ps=>PyData.tuple (ps.map PyData.int)))<=64:=by rw[PyData.depth];omega
 unfold SeqAt.shaped;rw[decide_eq_true e,PyData.canLay0,y']
 rfl
def z_:∀c d:Ξ,sameAll (c.map fun ps=>PyData.tuple (ps.map PyData.int)) (d.map fun ps=>PyData.tuple (ps.map PyData.int))=decide (c=d)
 |[],[]=>by simp[sameAll]
 |[],_::_=>by simp[sameAll]
 |_::_,[]=>by simp[sameAll]
 |a::r,b::t=>by
  simp only[AE,sameAll,same,PySem.W.ke_sameAll,z_ r t]
  by_cases h:a=b<;>by_cases h':r=t<;>simp[h,h']
def A_(ps:List Int):(Shape.tuples .int).has (.tuple (ps.map PyData.int))=true:=by simp[Shape.has]
def Be(a:Ξ):(Shape.list (.tuples .int)).has (.list (a.map fun ps=>PyData.tuple (ps.map PyData.int)))=true:=by simp[Shape.has]
def ji(f:Bool)(K:Ae):R2:=fun x y H Q=>(∃a b ps c,x=.ref a/\y=.ref b/\Tp H a ps/\Tp H b c/\Q (.bl (if f then !decide (ps=c) else decide (ps=c))) H) \/
 (∃l m as bs d e,x=.ref l/\y=.ref m/\SqL K H l (as.map V.ref)/\Tps H as d/\SqL K H m (bs.map V.ref)/\Tps H bs e/\Q (.bl (if f then !decide (d=e) else decide (d=e))) H)
def FX(hu:X.A.units+64<cLine):bT X (compareOp .NotEq) (ji true X.K):=by
 intro aa s σ H x y v u Q I f g h;rcases h with ⟨a,b,ps,c,rfl,rfl,i,hb,q⟩|⟨l,m,as,bs,d,e,rfl,rfl,j,hp,hm,hq,q⟩
 ·cases f
  cases g;refine ne_dataH_same (vJ I i) (vJ I hb) (y_ _) (y_ _) hu (SeqAt.noMix_of_shape (.tuples .int) rfl _ _ (A_ _) (A_ _)) ?_;rw[show same (.tuple (ps.map PyData.int)) (.tuple (c.map PyData.int))=decide (ps=c) from by simp only[same];exact PySem.W.ke_sameAll ps c];exact⟨.bl _,H,I,rfl,q⟩
 ·cases f
  cases g;refine ne_dataH_same (yX I j hp) (yX I hm hq) (zz _) (zz _) hu (SeqAt.noMix_of_shape (.list (.tuples .int)) rfl _ _ (Be _) (Be _)) ?_;rw[show same (.list (d.map fun ps=>PyData.tuple (ps.map PyData.int))) (.list (e.map fun ps=>PyData.tuple (ps.map PyData.int)))=decide (d=e) from by simp only[same];exact z_ d e];exact⟨.bl _,H,I,rfl,q⟩
def zlU:V->List V->Hp->VK->Prop:=fun x vs H Q=>∃l xs i y,x=.ref l/\vs=[.int i,y]/\H l=some (.lst xs)/\0<=i/\i<=xs.length/\xs.length<sizeLine/\Q .non (upd H l (.lst (xs.take i.toNat++y::xs.drop i.toNat)))
def vS:hX X "list.insert" zlU:=by
 intro aa s σ H x vs v us Q I d f h;obtain⟨l,xs,i,y,rfl,rfl,b,o,hi,p,q⟩:=h;cases d;obtain⟨u,c,rfl,g,j⟩:=f.two;obtain⟨t,rfl⟩:=g;obtain⟨z,a,n,r,w,e⟩:=I.lstM b;have A:sizeLine<2 ^ 62:=by rw[sizeLine_eq];decide
 have hf:Builtin.List.listFitsIndex i=true:=by
  unfold Builtin.List.listFitsIndex;simp only[AB,decide_eq_true_eq];constructor<;>omega
 refine call_meets F.slot_list_insert ⟨_,e,rfl⟩ F.entry_list_insert (F.args_list_insert_3 _ _ _) (PySem.AutoSeq1.list_insert_list_int_val_1 l a.toArray n i t c (by simp[hf]) (by rw[Aj];omega)) ⟨e,?_⟩;refine⟨.non,_,I.lset (its':=a.take i.toNat++c::a.drop i.toNat) (t':=s.toks) b e ?_ ((r.take _).append (.cons j (r.drop _))) ?_,rfl,q⟩
 ·have hk:(if i<0 then(i+(a.toArray.size:Int)).toNat else min i.toNat a.toArray.size)=i.toNat:=by
   rw[if_neg ω,Aj];omega
  dsimp only;rw[hk];simp;exact AD (by rw[List.length_drop];exact Ag _)
 ·rw[Aq,Ap,AV,List.length_drop]
  omega
def ol:cE X (.type "int") (fun xs H Q=>∃x n,xs=[.str x]/\PySem.intText? x=some n/\x.length<=640/\Q (.int n) H):=by
 intro aa s σ H xs us Q I r h;obtain⟨x,n,rfl,a,b,q⟩:=h;obtain⟨u,rfl,t,rfl⟩:=vals1 r;exact PySem.W.KIN.call_text a b ⟨.int n,H,I.tok _,⟨_,rfl⟩,q⟩
end
section
variable{X:Cx}{aa:Ψ}{σ:St}{H:Hp}{s:Shared}
def Bf{A:Around}(h:A.units+64<cLine):A.in1.in1.units<cLine:=by show A.units+1+1<cLine;omega
def in1_units{A:Around}(h:A.units+64<cLine):A.in1.units<cLine:=by show A.units+1<cLine;omega
def FY:cE X (.builtin "sorted") (fun xs H Q=>∃(l:Addr)(ns:List Int),xs=[.ref l]/\SqL X.K H l (ns.map V.int)/\ns.length<64/\∀(D:Addr)(f:List Int),f.Perm ns->f.Pairwise (·<=·)->H D=none->Q (.ref D) (upd H D (.lst (f.map V.int)))):=by
 intro aa s σ H xs us Q I r h;obtain⟨l,ns,rfl,hq,y,q⟩:=h;obtain⟨u,rfl,z⟩:=vals1 r;cases z;obtain⟨d,j,p1,o⟩:=I.list hq;have hi:IntsAre d ns:=intsAre_of j;have a:=j.length;rw[Ab] at a o;refine bH.yL (ls:=ns.map fun n=>[n]) (good:=fun _=>True) p1.isList (bH.Fv hi) (fun _ _=>trivial) ω ω fun g b=>?_;obtain⟨ps,hp,b,hs⟩:=b;have all:∀p∈ps,∃n t,p.1=[n]/\p.2=Value.int n t:=fun p x=>by
  obtain⟨i,e⟩:=List.mem_iff_getElem?.mp (hp.mem_iff.mp x);rw[bH.bM,Ao] at e;cases e1:ns[i]? with
  |none=>rw[e1] at e;simp at e
  |some n=>
   obtain⟨t,e2⟩:=hi.get i n e1;rw[e1,e2] at e;simp only[A7,Option.bind_some,Option.some.injEq] at e;subst e;exact⟨n,t,rfl,rfl⟩
 have A:∀ps:List (List Int×Value),(∀p∈ps,∃n t,p.1=[n]/\p.2=Value.int n t)->Vals ((ps.map fun p=>p.1.headD 0).map V.int) (ps.map (·.2)):=by
  intro ps
  induction ps with
  |nil=>intro _;exact .nil
  |cons p ps ih=>
   intro h;obtain⟨n,t,e1,e2⟩:=h p Am;refine .cons ?_ (ih fun q hq=>h q (Av _ hq));show RelV (V.int (p.1.headD 0)) p.2;rw[e1,e2];exact⟨t,rfl⟩
 have v:(ps.map fun p=>p.1.headD 0).Perm ns:=by
  have h1:=hp.map (fun p:List Int×Value=>p.1.headD 0);have e:((ns.map fun n=>[n]).zip d).map (fun p:List Int×Value=>p.1.headD 0)=ns:=by
   rw[show(fun p:List Int×Value=>p.1.headD 0)=(fun l:List Int=>l.headD 0) ∘ Prod.fst from rfl,<-AC,List.map_fst_zip (by rw[Ab];omega),AC];exact List.map_id' ns
  rw[e] at h1;exact h1
 have C:(ps.map fun p=>p.1.headD 0).Pairwise (·<=·):=by
  rw[List.pairwise_map];refine hs.imp_of_mem fun{p q} h1 h2 c=>?_;obtain⟨n,t,e1,_⟩:=all p h1;obtain⟨m,t',e2,_⟩:=all q h2;rw[e1,e2,HT.zJ] at c;rw[e1,e2];show n<=m
  by_cases e:m=n
  ·omega
  ·rw[if_neg e] at c
   have:=of_decide_eq_false c;omega
 obtain⟨e,he⟩:=sortedAll_at s.heap d g;refine⟨.ref (s⁻¹+1),_,I.laid (t':=s.toks) (fun _ _=>sortedAll_old) (Nat.le_succ _) (show zA X.prog X.w _ _ _ (.lst ((ps.map fun p=>p.1.headD 0).map V.int)) from⟨?_,g.toList,e,?_,?_⟩),rfl,q _ _ v C (I.hok.fresh (Nat.le_succ _))⟩
 ·rw[Ab,v.length_eq];exact o
 ·rw[b];exact A ps all
 ·simpa using he
def l7(H:Hp)(p:Addr)(l:List Int):Prop:=∃n b ps,l=n::ps/\H p=some (.tup [.int n,.ref b])/\Tp H b ps
def Bg{p:Addr}{l:List Int}(I:Inv X aa σ H s)(h:l7 H p l):bH.IsPr s.heap (.ref p) l:=by
 obtain⟨n,b,ps,rfl,h1,h2⟩:=h;obtain⟨f,a,p1,_⟩:=I.tuple (SqT.of (K:=X.K) h1);obtain⟨u,g,rfl,⟨t,rfl⟩,c⟩:=vals2 a;cases c;obtain⟨d,e,p2,_⟩:=I.tuple (SqT.of (K:=X.K) h2);exact⟨p,b,n,t,d,ps,rfl,rfl,p1,p2,intsAre_of e⟩
def FZ{h h':Heap}{u:Value}{l:List Int}(k:∀b o,h.get? b=some o->h'.get? b=some o)(x:bH.IsPr h u l):bH.IsPr h' u l:=by
 obtain⟨a,b,n,t,d,ps,e1,e2,⟨o,e,hc⟩,⟨o',f,c⟩,i⟩:=x;exact⟨a,b,n,t,d,ps,e1,e2,⟨o,k _ _ e,hc⟩,⟨o',k _ _ f,c⟩,i⟩
def om{a b:Type}{R:a->b->Prop}{l:List a}{m:List b}(p:Paired R l m):∀(i:Nat) x y,l[i]?=some x->m[i]?=some y->R x y:=by
 induction p with
 |nil=>intro i x y h;simp at h
 |cons r t ih=>
  intro i x y h1 h2;cases i with
  |zero=>simp at h1 h2;subst h1 h2;exact r
  |succ i=>exact ih i x y (by simpa using h1) (by simpa using h2)
def addrOf:Value->Addr
 |.ref a=>a
 |_=>0
def F0(hu:X.A.units+64<cLine):cE X (.builtin "sorted") (fun xs H Q=>∃(l:Addr)(as:List Addr)(ls:Ξ),xs=[.ref l]/\SqL X.K H l (as.map V.ref)/\Paired (l7 H) as ls/\ls.length<64/\
  ∀(D:Addr)(j:List (List Int×Addr)),j.Perm (ls.zip as)->j.Pairwise (fun a b=>HT.lexLt b.1 a.1=false)->H D=none->Q (.ref D) (upd H D (.lst (j.map fun q=>V.ref q.2)))):=by
 intro aa s σ H xs us Q I r h;obtain⟨l,as,ls,rfl,hq,hp,C,q⟩:=h;obtain⟨u,rfl,E⟩:=vals1 r;cases E;obtain⟨J,v,p1,x⟩:=I.list hq;have c:=v.length;obtain rfl:=a_ v;rw[Ab] at c x;have F:=Paired.length hp;have G:∀h:Heap,(∀b o,s.heap.get? b=some o->h.get? b=some o)->∀(i:Nat) u l,(as.map Value.ref)[i]?=some u->ls[i]?=some l->bH.IsPr h u l:=fun h hk i u l h1 h2=>by
  rw[Ao] at h1;cases e:as[i]? with
  |none=>rw[e] at h1;simp at h1
  |some a=>
   rw[e] at h1;obtain rfl:=Ai h1;exact FZ hk (Bg I (om hp i a l e h2))
 refine bH.yL (ls:=ls) (good:=fun h=>∀b o,s.heap.get? b=some o->h.get? b=some o) p1.isList (bH.yJ (by rw[Ab];exact F) (Bf hu) ⟨s.heap,fun _ _ e=>e⟩ G) (fun h' hk=>hk) (by rw[Ab];exact x) (by rw[Ab];omega) fun d f=>?_;obtain⟨ps,y,f,hs⟩:=f;have all:∀p∈ps,p.2=Value.ref (addrOf p.2):=fun p g=>by
  have:=(List.of_mem_zip (y.mem_iff.mp g:(p.1,p.2)∈ls.zip (as.map Value.ref))).2;obtain⟨a,_,e⟩:=List.mem_map.mp this;rw[<-e];rfl
 have z:(ps.map fun p=>(p.1,addrOf p.2)).Perm (ls.zip as):=by
  have h1:=y.map (fun p:List Int×Value=>(p.1,addrOf p.2));have e:(ls.zip (as.map Value.ref)).map (fun p:List Int×Value=>(p.1,addrOf p.2))=ls.zip as:=by
   rw[List.zip_map_right,AC];exact(AZ fun p _=>rfl).trans (List.map_id' _)
  rw[e] at h1;exact h1
 obtain⟨e,he⟩:=sortedAll_at s.heap (as.map Value.ref) d;have ex:d.toList=((ps.map fun p=>(p.1,addrOf p.2)).map fun q=>Value.ref q.2):=by
  rw[f,AC];exact AZ fun p g=>all p g
 refine⟨.ref (s⁻¹+1),_,I.laid (t':=s.toks) (fun _ _=>sortedAll_old) (Nat.le_succ _) (show zA X.prog X.w _ _ _ (.lst ((ps.map fun p=>(p.1,addrOf p.2)).map fun q=>V.ref q.2)) from⟨?_,d.toList,e,?_,?_⟩),rfl,q _ _ z ?_ (I.hok.fresh (Nat.le_succ _))⟩
 ·rw[Ab,z.length_eq,List.length_zip];omega
 ·rw[ex]
  exact vr (fun q:List Int×Addr=>q.2) _
 ·simpa using he
 ·rw[List.pairwise_map];exact hs
def ot:Sp:=fun vs H Q _=>∃a ps,vs=[.ref a]/\Tp H a ps/\∀p,H p=none->Q (.ref p) (upd H p (.tup [.int ps.length,.ref a]))
def Bh{b:Addr}(h:bF X aa H b):∀c∈[b],bF X aa H c:=fun c hc=>by rw[List.mem_singleton.mp hc];exact h
def l'{H':Hp}{b:Addr}(f:bF X aa H b)(a:H' b=none):bF X aa H' b:=⟨a,f.2⟩
def Bi{b:Addr}(I:Inv X aa σ H s)(f:bF X aa H b):b∉frs X.stack:=fun hb=>by
 rcases List.mem_cons.mp (I.stkSub b hb) with e|e
 ·exact f.2.1 e
 ·exact f.2.2.1 e
def F3{k:Nat}{f l:Addr}{fd:FuncData}{as:List Addr}{E:Ξ}{x:Str}{Q:Ω}(F:FnOk X.prog X.w X.K X.mg X.base aE k f fd [x] ot)(hr:Room (k+2) X.A)(hb:Binds X.K fd [x] [])(I:Inv X aa σ H s)(hl:SqL X.K H l (as.map V.ref))(ht:Tps H as E)(h64:E.length<64)(h:∀D H'(C:List (List Int×Addr)) s',Inv X aa σ H' s'->Same H H'->H D=none->H' D=some (.lst (C.map fun q=>V.ref q.2))->C.Perm (E.zip as)->
   C.Pairwise (fun a b=>HT.lexLt ((b.1.length:Int)::b.1) ((a.1.length:Int)::a.1)=false)->Q (.ref D) s'):
  wpAny (model X.prog X.w) X.A (call (.builtin "sorted") [.ref l] [(Str.ofString "key",.ref f)]) Q X.xe s:=by
 have hu:X.A.units+64<cLine:=hr.units;obtain⟨ag,r1,p1,hz⟩:=I.list hl;have hlen:=r1.length;obtain rfl:=a_ r1;have aQ:=ht.length;rw[Ab] at hlen hz;have S:(as.map Value.ref).length<=sizeLine:=by rw[Ab];exact hz
 generalize hvs:as.map Value.ref=vs at p1 S;have oU:vs.length=as.length:=by rw[<-hvs,Ab]
 refine call_function_entry_kw kind_sorted plain_sorted entry_sorted (ksk_s1 _ _) ?_;unfold Builtin.«sorted»;refine Aa (m:=checkCount "sorted" 1 1 _) (Ac ?_);refine Aa (collect_list p1.isList ?_ S);refine Aa (wpAny_newList ?_ S);have hsz:((s.heap.push (seqObj "list" #[] 0)).update s⁻¹ (AG (·++vs.toArray))).objs.size=s⁻¹+1:=by
  rw[AO,size_push']
 have g:(((s.heap.push (seqObj "list" #[] 0)).update s⁻¹ (AG (·++vs.toArray))).push (seqObj "list" vs.toArray 0)).get? (s⁻¹+1)=some (seqObj "list" vs.toArray 0):=by
  rw[<-hsz];exact Ax _ rfl
 have keep:∀b o,s.heap.get? b=some o->(((s.heap.push (seqObj "list" #[] 0)).update s⁻¹ (AG (·++vs.toArray))).push (seqObj "list" vs.toArray 0)).get? b=some o:=fun b o q=>by
  have M:b<s⁻¹:=Ah q;rw[Heap.get?_push_ne _ _ _ (by rw[hsz];exact Ar (Bc M)),Heap.get?_update_ne _ _ _ _ (Ar M),Heap.get?_push_ne _ _ _ (Ar M)];exact q
 show wpAny _ _ _ _ _ {s with heap:=((s.heap.push (seqObj "list" #[] 0)).update s⁻¹ (AG (·++vs.toArray))).push (seqObj "list" vs.toArray 0)};rw[hsz];generalize hA:((s.heap.push (seqObj "list" #[] 0)).update s⁻¹ (AG (·++vs.toArray))).push (seqObj "list" vs.toArray 0)=d at g keep ⊢;have I1:Inv X aa σ H {s with heap:=d}:=I.kept (t':=s.toks) keep;have T:bF X aa H (s⁻¹+1):=I.fpOk (Nat.le_succ _) (I.hok.fresh (Nat.le_succ _));generalize hD:s⁻¹+1=D at g T ⊢;have sH:D<d.objs.size:=Ah g;refine Aa (AU (wpAny_call_entry_kw slot_list_sort ⟨_,g,rfl⟩ entry_list_sort ?body (ksk_l1 _ _)))
 case body=>
  show wpAny (model X.prog X.w) X.A.in1.in1 (Builtin.«list.sort» ⟨[.ref D],[(Str.ofString "key",.ref f)]⟩) _ _ _;rw[ksk_t1];unfold ksk_tree;refine Aa (listItems_at g rfl ?_);refine Aa (listUpdate_at g rfl ?_ (by rw[Aj];exact S) (AT _));obtain⟨e1,dy⟩:∃e1,(d.update D (AG fun _=>(#[]:Array Value))).get? D=some (seqObj "list" #[] e1):=⟨_,get?_update_seq g fun _=>#[]⟩;refine Aa (seqEpoch_at dy rfl ?_);refine Aa (wpAny_newTuple ?_ (by show vs.length<=_;exact S));refine Aa (wpAny_newList ?_ (AT _));refine AU ?_;have I2:Inv X aa σ H {s with heap:=d.update D (AG fun _=>(#[]:Array Value))}:=
   Inv.turneds (s:={s with heap:=d}) (t':=s.toks) (ch:=[D]) I1 (Bh T) fun b o hb q=>by rw[Heap.get?_update_ne _ _ _ _ (fun z=>hb (by simp[z]))];exact q
  have I3:Inv X aa σ H {s with heap:=((d.update D (AG fun _=>(#[]:Array Value))).push (seqObj "tuple" vs.toArray 0))}:=I2.kept (t':=s.toks) fun b u q=>Ad _ q;have j6:bF X aa H ((d.update D (AG fun _=>(#[]:Array Value))).push (seqObj "tuple" vs.toArray 0)).objs.size:=I3.fpOk (Ag _) (I3.hok.fresh (Ag _));have jP:((d.update D (AG fun _=>(#[]:Array Value))).push (seqObj "tuple" vs.toArray 0)).objs.size≠D:=by
   rw[size_push',AO];omega
  have I4:Inv X aa σ H {s with heap:=(((d.update D (AG fun _=>(#[]:Array Value))).push (seqObj "tuple" vs.toArray 0)).push (seqObj "list" #[] 0))}:=I3.kept (t':=s.toks) fun b u q=>Ad _ q;have tL:(((d.update D (AG fun _=>(#[]:Array Value))).push (seqObj "tuple" vs.toArray 0)).push (seqObj "list" #[] 0)).get? ((d.update D (AG fun _=>(#[]:Array Value))).push (seqObj "tuple" vs.toArray 0)).objs.size=some (seqObj "list" #[] 0):=Ax _ rfl;have cC:(((d.update D (AG fun _=>(#[]:Array Value))).push (seqObj "tuple" vs.toArray 0)).push (seqObj "list" #[] 0)).get? D=some (seqObj "list" #[] e1):=Ad _ (Ad _ dy);show wpAny (model X.prog X.w) X.A.in1.in1 (ksk_rest D (.ref f) false vs.toArray e1 (.ref ((d.update D (AG fun _=>(#[]:Array Value))).push (seqObj "tuple" vs.toArray 0)).objs.size)) _ _ {s with heap:=((d.update D (AG fun _=>(#[]:Array Value))).push (seqObj "tuple" vs.toArray 0)).push (seqObj "list" #[] 0)};generalize ((d.update D (AG fun _=>(#[]:Array Value))).push (seqObj "tuple" vs.toArray 0)).objs.size=kS at *;generalize ((d.update D (AG fun _=>(#[]:Array Value))).push (seqObj "tuple" vs.toArray 0)).push (seqObj "list" #[] 0)=mL at *;unfold ksk_rest;refine Aa (wpAny_rule ?_)
  first
   |rw[List.forIn_toArray]
   |(rw[<-Array.forIn_toList];simp only[List.toList_toArray])
  refine Aa (ksk_fold (fun i s'=>∃y G e ks,Inv X aa σ y s'/\Same H y/\y D=none/\y kS=none/\s'.heap.get? kS=some (seqObj "list" G e)/\s'.heap.get? D=some (seqObj "list" #[] e1)/\G.toList=ks.map Value.ref/\ks.length=i/\
    ∀(j:Nat) p,ks[j]?=some p->∃a ps,as[j]?=some a/\E[j]?=some ps/\y p=some (.tup [.int ps.length,.ref a])) vs 0 _
   ⟨H,#[],0,[],I4,Same.refl H,T.1,j6.1,tL,cC,rfl,rfl,fun j p e=>by simp at e⟩ ?step ?done)
  case step=>
   rintro j v s' hv ⟨y,G,e,ks,Ik,O,P,U,W,na,jH,L,cn⟩;simp only[Nat.zero_add] at L ⊢;have jY:j<as.length:=by rw[<-oU];exact(List.getElem?_eq_some_iff.mp hv).1
   have Z:as[j]?=some as[j]:=Af jY;obtain⟨ps,cp,cR⟩:=ht.get Z;have ev:v=.ref as[j]:=by
    rw[<-hvs,Ao,Z] at hv;exact(Ai hv).symm
   subst ev;refine Aa (wpAny_attempt (wpAny_call (codeAny_mono (F.run X.A.in1.in1 X.stack s' y ⟨[.ref as[j]],[]⟩ [.ref as[j]] [.ref as[j]] (fun v H'=>∃p,v=.ref p/\y p=none/\H'=upd y p (.tup [.int ps.length,.ref as[j]])) E0
    (Room.in1 (Room.in1 hr)) Ik.env0.in1.in1 (hb s' [.ref as[j]] Ik.kIn rfl) (.cons rfl .nil) ⟨as[j],ps,rfl,O.tp cR,fun p hp=>⟨p,rfl,hp,rfl⟩⟩) fun r N hq=>?_)))
   cases r with
   |error e=>exact False.elim hq
   |ok fl=>
    cases fl with
    |next=>exact False.elim hq
    |brk=>exact False.elim hq
    |cont=>exact False.elim hq
    |ret u=>
     obtain⟨v,H',os,Y,un,hok,ru,p,rfl,hp,rfl⟩:=hq;cases ru;have I5:Inv X aa σ (upd y p (.tup [.int ps.length,.ref as[j]])) N:=Ik.call' os un hok Y (fun b z=>nomatch z);have fD:=l' T P;have fK:=l' j6 U;have q9:=un.keep D _ na P (Bi Ik fD) (by simp);have nS:=un.keep kS _ W U (Bi Ik fK) (by simp);have eV:=un.free D _ na P (by simp);have oB:=un.free kS _ W U (by simp)
     try dsimp only
     have hkz:G.size=j:=by rw[<-Au,jH,Ab,L]
     obtain⟨c2,cN⟩:∃c2,(N.heap.update kS (AG (·.push (.ref p)))).get? kS=some (seqObj "list" (G.push (.ref p)) c2):=⟨_,get?_update_seq nS (·.push (.ref p))⟩;have s1:=A1 N.heap kS (AG (·.push (.ref p)));have qQ:=l' j6 oB;have I6:Inv X aa σ (upd y p (.tup [.int ps.length,.ref as[j]])) {N with heap:=N.heap.update kS (AG (·.push (.ref p)))}:=
      I5.turneds (t':=N.toks) (ch:=[kS]) (Bh qQ) fun b o hb q=>(s1.2 b (fun z=>hb (by simp[z]))).trans q
     refine Aa (listUpdate_at nS rfl ?_ ω (AA (Nat.le_of_eq (Array.size_push ..)) ω));refine Ac ⟨rfl,_,G.push (.ref p),c2,ks++[p],I6,O.then (by exact O.free hp),eV,oB,cN,(s1.2 D jP.symm).trans q9,by rw[Array.toList_push,jH,At];rfl,by rw[Aq,L];rfl,fun i p' J=>?_⟩
     by_cases hi:i<ks.length
     ·rw[List.getElem?_append_left hi] at J
      obtain⟨a,gJ,x1,x2,x3⟩:=cn i p' J;exact⟨a,gJ,x1,x2,by rw[zh (zg x3 hp)];exact x3⟩
     ·rw[List.getElem?_append_right ω] at J
      have h0:i-ks.length=0:=by
       rcases Nat.eq_zero_or_pos (i-ks.length) with z|z
       ·exact z
       ·rw[List.getElem?_eq_none (by simp only[Ap,List.length_nil];omega)] at J;cases J
      rw[h0] at J;obtain rfl:p=p':=by simpa using J
      have hij:i=j:=ω
      subst hij;exact⟨_,ps,Z,cp,al⟩
  case done=>
   rintro s' ⟨y,G,e,ks,Ik,O,P,U,W,na,jH,L,cn⟩;simp only[Nat.zero_add] at L
   try dsimp only
   refine Aa (listItems_at W rfl ?_);unfold ksk_end
   try dsimp only
   simp only[An,if_false];have pG:G=(ks.map Value.ref).toArray:=by rw[<-jH,Array.toArray_toList]
   subst pG;have mj:∀(i:Nat) u l,(ks.map Value.ref)[i]?=some u->(E.map fun ps=>(ps.length:Int)::ps)[i]?=some l->bH.IsPr s'.heap u l:=fun i u l h1 h2=>by
    rw[Ao] at h1 h2;cases ek:ks[i]? with
    |none=>rw[ek] at h1;simp at h1
    |some p=>
     obtain⟨a,ps,x1,x2,x3⟩:=cn i p ek;rw[ek] at h1;rw[x2] at h2;obtain rfl:=Ai h1;obtain rfl:=Ai h2;obtain⟨gJ,y1,y2⟩:=ht.get x1;rw[x2] at y1;obtain rfl:=Ai y1;exact Bg Ik ⟨_,a,ps,rfl,x3,O.tp y2⟩
   refine bH.yK (us:=ks.map Value.ref) (vs:=vs) (ls:=E.map fun ps=>(ps.length:Int)::ps) (good:=fun h=>h=s'.heap) (bH.yJ (by rw[Ab,Ab,L,oU];exact aQ) (Bf hu) ⟨_,rfl⟩ (by rintro h rfl;exact mj)) (by rw[Ab,L]) ω rfl fun ah ho hst hf=>?_;refine bH.FB (ls:=E.map fun ps=>(ps.length:Int)::ps) (vs:=vs) W na jP (by rw[Aj,Ab];omega) ho hst S hf fun h' aV c kk tW vo lO pZ=>⟨_,rfl,?_⟩;refine Ac ⟨_,rfl,?_⟩;obtain⟨ps,ff,dN,hs⟩:=lO;subst hvs;have I7:Inv X aa σ y {s' with heap:=h'}:=Ik.turneds (t':=s'.toks) (ch:=[kS,D]) (fun b hb=>by
     simp only[List.mem_cons,List.not_mem_nil,or_false] at hb;rcases hb with rfl|rfl
     ·exact l' j6 U
     ·exact l' T P) fun b o hb q=>kk b o (fun z=>hb (by simp[z])) (fun z=>hb (by simp[z])) q
   have all:∀p∈ps,∃a C,p.2=Value.ref a/\p.1=((C:List Int).length:Int)::C:=fun p bN=>by
    obtain⟨h1,h2⟩:=List.of_mem_zip (ff.mem_iff.mp bN:(p.1,p.2)∈_);obtain⟨a,_,Z⟩:=List.mem_map.mp h2;obtain⟨C,_,eq⟩:=List.mem_map.mp h1;exact⟨a,C,Z.symm,eq.symm⟩
   have pm:(ps.map fun p=>(p.1.tail,addrOf p.2)).Perm (E.zip as):=by
    have h1:=ff.map (fun p:List Int×Value=>(p.1.tail,addrOf p.2));have e:((E.map fun ps=>(ps.length:Int)::ps).zip (as.map Value.ref)).map (fun p:List Int×Value=>(p.1.tail,addrOf p.2))=E.zip as:=by
     rw[List.zip_map,AC];exact(AZ fun p _=>rfl).trans (List.map_id' _)
    rw[e] at h1;exact h1
   have ex:aV.toList=((ps.map fun p=>(p.1.tail,addrOf p.2)).map fun q=>Value.ref q.2):=by
    rw[dN,AC];refine AZ fun p bN=>?_;obtain⟨a,C,e1,_⟩:=all p bN;show p.2=Value.ref (addrOf p.2);rw[e1];rfl
   have vv:Vals ((ps.map fun p=>(p.1.tail,addrOf p.2)).map fun q=>V.ref q.2) aV.toList:=by
    rw[ex];exact vr (fun q:List Int×Addr=>q.2) _
   obtain⟨f0,f1,f2,f3,f4,f5⟩:=T;have uI:X.s₀⁻¹<=D:=by rw[<-hD];exact AA I.sz (Nat.le_succ _)
   have I8:Inv X aa σ (upd y D (.lst ((ps.map fun p=>(p.1.tail,addrOf p.2)).map fun q=>V.ref q.2))) {s' with heap:=h'}:=by
    refine I7.adopt P uI f1 f4 f5 ⟨?_,aV.toList,c,vv,?_⟩
    ·rw[Ab,pm.length_eq,List.length_zip];omega
    ·simpa using tW
   refine h D _ _ _ I8 (O.then f0) f0 al pm ?_;rw[List.pairwise_map];refine hs.imp_of_mem fun{p q} h1 h2 h3=>?_;obtain⟨_,C,_,e1⟩:=all p h1;obtain⟨_,rM,_,e2⟩:=all q h2;rw[e1,e2] at h3;rw[e1,e2];exact h3
end
section
variable{X:Cx}{a:Expr}{ta:TA}{p p2 pos iU:Pos}{k:Nat}{f:Addr}{fd:FuncData}{x y:Str}
def F4(K:Ae)(ta:TA):TE:=fun σ H Q=>ta σ H fun vs H1=>∃(l:Addr)(as:List Addr)(d:Ξ),vs=[.ref l]/\SqL K H1 l (as.map V.ref)/\Tps H1 as d/\d.length<64/\
 ∀D H2(c:List (List Int×Addr)),Same H1 H2->H1 D=none->H2 D=some (.lst (c.map fun q=>V.ref q.2))->c.Perm (d.zip as)->c.Pairwise (fun a b=>HT.lexLt ((b.1.length:Int)::b.1) ((a.1.length:Int)::a.1)=false)->Q (.ref D) H2
def F5(F:FnOk X.prog X.w X.K X.mg X.base aE k f fd [x] ot)(hr:Room (k+2) X.A)(hb:Binds X.K fd [x] [])(C:Gl X "sorted")(hm:X.mg "sorted"=none)(E:A4 "sorted"=some (.builtin "sorted"))(G:Gl X y)(J:X.mg y=some (.ref f))(L:PA X [a] ta)(M:(y==("__debug__":Str))=false:=by decide)(he:starEach [a] X.env=[(false,eval a X.env)]:=by rfl):PE X (.Call (.Name "sorted" p) [a] [⟨some "key",.Name y p2,iU⟩] pos) (F4 X.K ta):=by
 intro aa s σ H Q I h;refine wpAny_Call_Name_kw (jD I C hm E ?_);refine callWith_kw ?_ (by rw[he];rfl) (by rw[he];rfl) rfl rfl;refine aR (L pos aa s σ H _ I h) fun us d ⟨vs,H1,c,e,g⟩=>?_;obtain⟨l,as,O,rfl,v,ht,b,q⟩:=g;obtain⟨u,rfl,z⟩:=vals1 e;cases z;refine kws_cons (k8 c G J (kws_nil ?_) M);show wpAny (model X.prog X.w) X.A (call (.builtin "sorted") [.ref l] [(Str.ofString "key",.ref f)]) _ _ d;exact F3 F hr hb c v ht b fun D H' i s' N j o r hp hs=>⟨.ref D,H',N,rfl,q D H' i j o r hp hs⟩
end
end L2
end
section
namespace STb
open PySem PySem.SetTable
def Ris(xs:Array Nat):Prop:=∀(i j a b:Nat),xs[i]?=some a->xs[j]?=some b->i<j->a<b
def Ris.inj{xs:Array Nat}(h:Ris xs){i j a:Nat}(h1:xs[i]?=some a)(h2:xs[j]?=some a):i=j:=by
 rcases Nat.lt_trichotomy i j with q|q|q
 ·exact absurd (h i j a a h1 h2 q) (Nat.lt_irrefl _)
 ·exact q
 ·exact absurd (h j i a a h2 h1 q) (Nat.lt_irrefl _)
def vW{xs:Array Nat}{j:Nat}(hr:Ris xs):∀(fuel lo hi:Nat),hi-lo<=fuel->lo<=hi->hi<=xs.size->(∀i a,xs[i]?=some a->i<lo->a<j)->(∀i a,xs[i]?=some a->hi<=i->j<=a)->
  below.go xs j fuel lo hi<=xs.size/\(∀i a,xs[i]?=some a->i<below.go xs j fuel lo hi->a<j)/\(∀i a,xs[i]?=some a->below.go xs j fuel lo hi<=i->j<=a)
 |0,lo,hi,h0,h1,h2,h3,h4=>by
  have e:lo=hi:=ω
  subst e;exact⟨h2,h3,h4⟩
 |fuel+1,lo,hi,h0,h1,h2,h3,h4=>by
  have d:below.go xs j (fuel+1) lo hi=if lo<hi then(if xs.getD ((lo+hi) / 2) j<j then below.go xs j fuel ((lo+hi) / 2+1) hi else below.go xs j fuel lo ((lo+hi) / 2)) else lo:=rfl;rw[d]
  by_cases c:lo<hi
  ·rw[if_pos c]
   have hm:(lo+hi) / 2<xs.size:=ω
   have em:xs[(lo+hi) / 2]?=some xs[(lo+hi) / 2]:=getElem?_pos xs _ hm;have f:xs.getD ((lo+hi) / 2) j=xs[(lo+hi) / 2]:=by simp[Array.getD,hm]
   rw[f]
   by_cases hc:xs[(lo+hi) / 2]<j
   ·rw[if_pos hc]
    refine vW hr fuel _ _ ω ω h2 (fun i a e b=>?_) h4;rcases Nat.lt_or_eq_of_le (Nat.lt_succ_iff.mp b) with q|q
    ·exact Nat.lt_trans (hr _ _ _ _ e em q) hc
    ·subst q;rw[em] at e;cases e;exact hc
   ·rw[if_neg hc]
    refine vW hr fuel _ _ ω ω ω h3 (fun i a e b=>?_);rcases Nat.lt_or_eq_of_le b with q|q
    ·have:=hr _ _ _ _ em e q
     omega
    ·subst q;rw[em] at e;cases e;omega
  ·rw[if_neg c]
   have e:lo=hi:=ω
   subst e;exact⟨h2,h3,h4⟩
def vX{xs:Array Nat}(hr:Ris xs)(j:Nat):below xs j<=xs.size/\(∀i a,xs[i]?=some a->i<below xs j->a<j)/\(∀i a,xs[i]?=some a->below xs j<=i->j<=a):=
 vW hr xs.size 0 xs.size ω ω (Ag _) (fun _ _ _ h=>absurd h (Nat.not_lt_zero _)) (fun i a e h=>by have:=(Array.getElem?_eq_some_iff.mp e).1;omega)
def below_at{xs:Array Nat}(hr:Ris xs){i j:Nat}(e:xs[i]?=some j):below xs j=i:=by
 obtain⟨h1,h2,a⟩:=vX hr j;rcases Nat.lt_trichotomy (below xs j) i with q|q|q
 ·have hb:below xs j<xs.size:=Nat.lt_trans q (Array.getElem?_eq_some_iff.mp e).1
  have e2:=getElem?_pos xs (below xs j) hb;have b:=a _ _ e2 (Ag _);have c:=hr _ _ _ _ e2 e q;omega
 ·exact q
 ·exact absurd (h2 i j e q) (Nat.lt_irrefl _)
def e'{a:Type}(xs:Array a)(p:Nat)(x:a)(hp:p<=xs.size)(i:Nat):(insertAt xs p x)[i]?=if i<p then xs[i]? else if i=p then some x else xs[i-1]?:=by
 unfold insertAt;have hs:((xs.extract 0 p).push x).size=p+1:=by rw[Array.size_push,Array.size_extract];omega
 by_cases h1:i<p
 ·rw[if_pos h1,Array.getElem?_append_left ω,Array.getElem?_push_lt (by rw[Array.size_extract];omega)]
  simp[Array.getElem_extract,h1]
 ·rw[if_neg h1]
  by_cases h2:i=p
  ·subst h2
   rw[if_pos rfl,Array.getElem?_append_left ω];have e:(xs.extract 0 i).size=i:=by rw[Array.size_extract];omega
   have:=Array.getElem?_push_size (xs:=xs.extract 0 i) (x:=x);rw[e] at this;exact this
  ·rw[if_neg h2,Array.getElem?_append_right ω,hs,Array.getElem?_extract]
   by_cases b:i-(p+1)<xs.size-p
   ·rw[if_pos ω]
    congr 1
    omega
   ·rw[if_neg ω]
    exact(Array.getElem?_eq_none ω).symm
def ow{a:Type}(xs:Array a)(p:Nat)(x:a)(hp:p<=xs.size):(insertAt xs p x).size=xs.size+1:=by
 unfold insertAt;rw[Array.size_append,Array.size_push,Array.size_extract,Array.size_extract];omega
def F7{xs:Array Nat}(hr:Ris xs){j:Nat}(p:∀i:Nat,xs[i]?≠some j):Ris (insertAt xs (below xs j) j):=by
 obtain⟨h1,h2,o⟩:=vX hr j;intro a b x y d c l;rw[e' _ _ _ h1] at d c
 by_cases e:a<below xs j
 ·rw[if_pos e] at d
  by_cases f:b<below xs j
  ·rw[if_pos f] at c;exact hr _ _ _ _ d c l
  ·rw[if_neg f] at c
   by_cases g:b=below xs j
   ·rw[if_pos g] at c;cases c;exact h2 _ _ d e
   ·rw[if_neg g] at c;exact hr _ _ _ _ d c ω
 ·rw[if_neg e] at d
  rw[if_neg ω] at c
  by_cases h:a=below xs j
  ·rw[if_pos h] at d;cases d
   rw[if_neg ω] at c;have:=o _ _ c ω;rcases Nat.lt_or_eq_of_le this with q|q
   ·exact q
   ·subst q;exact absurd c (p _)
  ·rw[if_neg h] at d
   rw[if_neg ω] at c;exact hr _ _ _ _ d c ω
def fo(mask:Nat)(p:Probe):Probe:=
 if p.more>0 then {p with j:=p.j+1,more:=p.more-1} else
 {p with j:=(leap mask p.i p.perturb).1,more:=runEnd mask (leap mask p.i p.perturb).1-(leap mask p.i p.perturb).1,i:=(leap mask p.i p.perturb).1,perturb:=(leap mask p.i p.perturb).2}
def first(mask:Nat)(h:Int):Probe:={j:=bits h%(mask+1),more:=runEnd mask (bits h%(mask+1))-bits h%(mask+1),i:=bits h%(mask+1),perturb:=bits h,dummy:=none}
def pr(mask:Nat)(h:Int):Nat->Probe
 |0=>first mask h
 |n+1=>fo mask (pr mask h n)
def pos(mask:Nat)(h:Int)(n:Nat):Nat:=(pr mask h n).j
def Bj(mask:Nat)(h:Int):∀n,(pr mask h n).dummy=none
 |0=>rfl
 |n+1=>by
  show(fo mask (pr mask h n)).dummy=none;unfold fo;split<;>exact Bj mask h n
def lp(mask:Nat)(h:Int):Nat->Nat×Nat
 |0=>(bits h%(mask+1),bits h)
 |r+1=>leap mask (lp mask h r).1 (lp mask h r).2
def F9(mask i:Nat):runEnd mask i-i<=9:=by unfold runEnd;split<;>omega
def oA(mask:Nat)(h:Int){n r:Nat}(e:pr mask h n={j:=(lp mask h r).1,more:=runEnd mask (lp mask h r).1-(lp mask h r).1,i:=(lp mask h r).1,perturb:=(lp mask h r).2,dummy:=none}):∀k,k<=runEnd mask (lp mask h r).1-(lp mask h r).1->pr mask h (n+k)={j:=(lp mask h r).1+k,more:=runEnd mask (lp mask h r).1-(lp mask h r).1-k,i:=(lp mask h r).1,perturb:=(lp mask h r).2,dummy:=none}
 |0,_=>e
 |k+1,hk=>by
  have a:=oA mask h e k ω;show fo mask (pr mask h (n+k))=_;rw[a];unfold fo;rw[if_pos (by show runEnd mask (lp mask h r).1-(lp mask h r).1-k>0;omega)]
  congr 1
def Bk(mask:Nat)(h:Int):∀r,∃n,n<=10*r/\pr mask h n={j:=(lp mask h r).1,more:=runEnd mask (lp mask h r).1-(lp mask h r).1,i:=(lp mask h r).1,perturb:=(lp mask h r).2,dummy:=none}
 |0=>⟨0,Ag _,rfl⟩
 |r+1=>by
  obtain⟨n,a,e⟩:=Bk mask h r;have b:=F9 mask (lp mask h r).1;refine⟨n+(runEnd mask (lp mask h r).1-(lp mask h r).1)+1,ω,?_⟩;show fo mask (pr mask h (n+(runEnd mask (lp mask h r).1-(lp mask h r).1)))=_;rw[oA mask h e _ (Ag _)];unfold fo;rw[if_neg (by show ¬(runEnd mask (lp mask h r).1-(lp mask h r).1-(runEnd mask (lp mask h r).1-(lp mask h r).1)>0);omega)]
  rfl
def F_(h:Int):bits h<2 ^ 64:=by
 unfold bits;have h1:(0:Int)<=h%(2 ^ 64:Int):=Int.emod_nonneg _ ξ;have h2:h%(2 ^ 64:Int)<2 ^ 64:=Int.emod_lt_of_pos _ ξ;omega
def Bl(mask:Nat)(h:Int):∀r,(lp mask h r).2=bits h / 32 ^ r
 |0=>by simp[lp]
 |r+1=>by
  show(lp mask h r).2 / 32=_;rw[Bl mask h r,Nat.div_div_eq_div_mul,Nat.pow_succ]
def F'(mask:Nat)(h:Int){r:Nat}(hr:13<=r):(lp mask h r).2=0:=by
 rw[Bl];have h1:=F_ h;have h2:32 ^ 13<=32 ^ r:=Nat.pow_le_pow_right ξ hr;exact Nat.div_eq_of_lt (Az h1 (AA ξ h2))
def Bm(mask:Nat)(h:Int):∀r,(lp mask h r).1<=mask
 |0=>Nat.lt_succ_iff.mp (Nat.mod_lt _ (Nat.succ_pos _))
 |r+1=>Nat.lt_succ_iff.mp (Nat.mod_lt _ (Nat.succ_pos _))
def f5(mask x:Nat):Nat:=(x*5+1)%(mask+1)
def eN(mask:Nat):Nat->Nat->Nat
 |0,x=>x
 |k+1,x=>f5 mask (eN mask k x)
def v0(mask:Nat)(h:Int):∀k,(lp mask h (13+k)).1=eN mask k (lp mask h 13).1
 |0=>rfl
 |k+1=>by
  show((lp mask h (13+k)).1*5+1+(lp mask h (13+k)).2 / 32)%(mask+1)=f5 mask (eN mask k (lp mask h 13).1);rw[F' mask h ω,v0 mask h k]
  rfl
def eE(mask:Nat):Prop:=∀i s,i<=mask->s<=mask->∃k,k<=mask/\eN mask k i=s
def kb(mask:Nat):Nat->Nat->List Nat
 |0,_=>[]
 |n+1,x=>x::kb mask n (f5 mask x)
def Bn(mask:Nat):∀(n x k:Nat),k<n->(kb mask n x)[k]?=some (eN mask k x)
 |0,_,_,h=>absurd h (Nat.not_lt_zero _)
 |n+1,x,0,_=>rfl
 |n+1,x,k+1,h=>by
  have a:=Bn mask n (f5 mask x) k ω;show(kb mask n (f5 mask x))[k]?=_;rw[a]
  congr 1
  have b:∀k x,eN mask k (f5 mask x)=f5 mask (eN mask k x):=by
   intro k
   induction k with
   |zero=>intro x;rfl
   |succ k a=>intro x;show f5 mask (eN mask k (f5 mask x))=_;rw[a];rfl
  exact b k x
def v1(mask:Nat):∀n x,(kb mask n x).length=n
 |0,_=>rfl
 |n+1,x=>by show(kb mask n (f5 mask x)).length+1=_;rw[v1 mask n]
def oD(mask:Nat):∀(a b x:Nat),eN mask (a+b) x=eN mask a (eN mask b x)
 |0,b,x=>by rw[Nat.zero_add];rfl
 |a+1,b,x=>by
  rw[Nat.add_right_comm];show f5 mask (eN mask (a+b) x)=_;rw[oD mask a b x]
  rfl
def kc{mask:Nat}(h:((List.range (mask+1)).all fun s=>(kb mask (mask+1) 0).contains s)=true)(hp:eN mask (mask+1) 0=0):eE mask:=by
 have all:∀s,s<=mask->∃k,k<=mask/\eN mask k 0=s:=fun s hs=>by
  have h2:=List.all_eq_true.mp h s (List.mem_range.mpr ω);obtain⟨k,hk,e⟩:=List.mem_iff_getElem.mp (List.contains_iff_mem.mp h2);rw[v1] at hk;refine⟨k,ω,?_⟩;have e2:=Bn mask (mask+1) 0 k hk;rw[Af (by rw[v1];exact hk),e] at e2;exact(Ai e2).symm
 intro i s hi hs;obtain⟨a,f,c⟩:=all i hi;obtain⟨b,hb,d⟩:=all s hs;rcases Nat.lt_or_ge b a with q|q
 ·refine⟨mask+1-a+b,ω,?_⟩
  rw[<-c,<-oD,show mask+1-a+b+a=b+(mask+1) from ω,oD,hp,d]
 ·refine⟨b-a,ω,?_⟩
  rw[<-c,<-oD,show b-a+a=b from ω,d]
def v9:eE 7:=kc δ δ
def iK:eE 31:=kc δ δ
def me:eE 15:=kc δ δ
def iL:eE 63:=kc δ δ
def jk:eE 255:=kc δ δ
def gk:eE 127:=kc δ δ
def mf{mask:Nat}(hc:eE mask)(h:Int){x:Nat}(hx:x<=mask):∃n,n<10*turns mask/\pos mask h n=x:=by
 obtain⟨k,hk,e⟩:=hc (lp mask h 13).1 x (Bm mask h 13) hx;obtain⟨n,a,e2⟩:=Bk mask h (13+k);refine⟨n,by unfold turns;omega,?_⟩;show(pr mask h n).j=x;rw[e2];show(lp mask h (13+k)).1=x;rw[v0,e]
def eH(mask:Nat)(h:Int)(n:Nat):pos mask h n<=mask:=by
 have key:∀n,(pr mask h n).i<=mask/\(pr mask h n).j+(pr mask h n).more<=mask:=by
  intro n;have a:∀i,i<=mask->i+(runEnd mask i-i)<=mask:=fun i hi=>by unfold runEnd;split<;>omega
  induction n with
  |zero=>
   have q:bits h%(mask+1)<=mask:=Nat.lt_succ_iff.mp (Nat.mod_lt _ (Nat.succ_pos _));exact⟨q,a _ q⟩
  |succ n ih=>
   show(fo mask (pr mask h n)).i<=mask/\(fo mask (pr mask h n)).j+(fo mask (pr mask h n)).more<=mask;unfold fo;split
   ·exact⟨ih.1,by show(pr mask h n).j+1+((pr mask h n).more-1)<=mask;omega⟩
   ·have q:(leap mask (pr mask h n).i (pr mask h n).perturb).1<=mask:=Nat.lt_succ_iff.mp (Nat.mod_lt _ (Nat.succ_pos _))
    exact⟨q,a _ q⟩
 have:=(key n).2;unfold pos;omega
structure Tb(t:SetTable)(hs:Array Int):Prop where
 ris:Ris t.place
 dum:t.dummies=#[]
 size:t.place.size=hs.size
 le:∀(i j:Nat),t.place[i]?=some j->j<=t.mask
 cov:eE t.mask
 odd:t.mask%2=1
 room:hs.size<=t.mask
 path:∀(k j:Nat)(h:Int),hs[k]?=some h->t.place[k]?=some j->∃n,pos t.mask h n=j/\∀m,m<n->∃k':Nat,t.place[k']?=some (pos t.mask h m)
def eO(t:SetTable)(j:Nat):Prop:=∃i:Nat,t.place[i]?=some j
section
variable{t:SetTable}{hs:Array Int}
def kd(T:Tb t hs){i j:Nat}(e:t.place[i]?=some j):t.slot j=.live i:=by
 show(if(t.place[below t.place j]?==some j)=true then Slot.live (below t.place j) else _)=_;rw[below_at T.ris e,e,if_pos (by simp)]
def Gb(T:Tb t hs){j:Nat}(e:¬eO t j):t.slot j=.empty:=by
 show(if(t.place[below t.place j]?==some j)=true then Slot.live (below t.place j) else if has t.dummies j=true then Slot.dummy else Slot.empty)=_;have h1:¬(t.place[below t.place j]?==some j)=true:=by
  intro q;exact e ⟨_,eq_of_beq q⟩
 have h2:has t.dummies j=false:=by
  unfold has;rw[T.dum]
  rfl
 rw[if_neg h1,h2]
 rfl
def Gc(T:Tb t hs):∃x,x<=t.mask/\¬eO t x:=by
 apply Classical.byContradiction;intro a;have all:∀x,x<=t.mask->eO t x:=fun x hx=>Classical.byContradiction fun q=>a ⟨x,hx,q⟩;have sub:List.range (t.mask+1) ⊆ t.place.toList:=fun x hx=>by
  obtain⟨i,e⟩:=all x (Nat.lt_succ_iff.mp (List.mem_range.mp hx));rw[<-AM] at e;exact Ay e
 have:=(List.nodup_range (n:=t.mask+1)).length_le_of_subset sub;rw[List.length_range,Au,T.size] at this;have:=T.room;omega
def least{P:Nat->Prop}(n:Nat)(h:P n):∃m,m<=n/\P m/\∀k,k<m->¬P k:=by
 induction n using Nat.strongRecOn with
 |ind n ih=>
  by_cases q:∃k,k<n/\P k
  ·obtain⟨k,hk,a⟩:=q
   obtain⟨m,h1,h2,b⟩:=ih k hk a;exact⟨m,ω,h2,b⟩
  ·exact⟨n,Ag _,h,fun k hk a=>q ⟨k,hk,a⟩⟩
def Bo(T:Tb t hs)(h:Int):∃ne,ne<10*turns t.mask/\¬eO t (pos t.mask h ne)/\∀m,m<ne->eO t (pos t.mask h m):=by
 obtain⟨x,hx,fx⟩:=Gc T;obtain⟨n,b,e⟩:=mf T.cov h hx;obtain⟨m,h1,h2,a⟩:=least (P:=fun m=>¬eO t (pos t.mask h m)) n (by rw[e];exact fx);exact⟨m,ω,h2,fun k hk=>Classical.byContradiction fun q=>a k hk q⟩
def v_(T:Tb t hs){hashAt:Nat->Int}{h:Int}:∀(d fuel n:Nat),(∀m,n<=m->m<n+d->∃i:Nat,t.place[i]?=some (pos t.mask h m)/\hashAt i≠h)->probe.go t hashAt h (fuel+d) (pr t.mask h n)=probe.go t hashAt h fuel (pr t.mask h (n+d))
 |0,fuel,n,_=>rfl
 |d+1,fuel,n,hm=>by
  obtain⟨i,e1,e2⟩:=hm n (Ag _) ω;have es:t.slot (pr t.mask h n).j=.live i:=kd T e1;have a:=v_ T d fuel (n+1) (fun m h1 h2=>hm m ω ω);rw[show fuel+(d+1)=(fuel+d)+1 from ω,show n+(d+1)=n+1+d from ω,<-a];show(match t.slot (pr t.mask h n).j with
   |.empty=>some (Met.empty (pr t.mask h n).j (pr t.mask h n).dummy)
   |.dummy=>probe.go t hashAt h (fuel+d) (t.advance {(pr t.mask h n) with dummy:=some (pr t.mask h n).j})
   |.live i=>if hashAt i==h then some (Met.candidate (pr t.mask h n).j i (t.advance (pr t.mask h n))) else probe.go t hashAt h (fuel+d) (t.advance (pr t.mask h n)))=_
  rw[es];dsimp only;rw[if_neg (by simpa using e2)]
  rfl
def probe_spec(T:Tb t hs){hashAt:Nat->Int}{h:Int}{ne n:Nat}(u:ne<10*turns t.mask)(he:¬eO t (pos t.mask h ne))(hm:∀m,m<ne->eO t (pos t.mask h m))(v:n<=ne):(t.probe hashAt h (pr t.mask h n)=some (.empty (pos t.mask h ne) none)/\∀m i,n<=m->m<ne->t.place[i]?=some (pos t.mask h m)->hashAt i≠h) \/
  ∃(N i:Nat),n<=N/\N<ne/\t.place[i]?=some (pos t.mask h N)/\hashAt i=h/\t.probe hashAt h (pr t.mask h n)=some (.candidate (pos t.mask h N) i (pr t.mask h (N+1)))/\∀m f,n<=m->m<N->t.place[f]?=some (pos t.mask h m)->hashAt f≠h:=by
 by_cases q:∃N,n<=N/\N<ne/\∃i:Nat,t.place[i]?=some (pos t.mask h N)/\hashAt i=h
 ·right
  obtain⟨o,p⟩:=q;obtain⟨N,h1,⟨h2,r,i,h4,l⟩,s⟩:=least (P:=fun N=>n<=N/\N<ne/\∃i:Nat,t.place[i]?=some (pos t.mask h N)/\hashAt i=h) o p;have g:∀m f,n<=m->m<N->t.place[f]?=some (pos t.mask h m)->hashAt f≠h:=fun m f a b c d=>s m b ⟨a,ω,f,c,d⟩;refine⟨N,i,h2,r,h4,l,?_,g⟩;obtain⟨fuel,hf⟩:∃fuel,10*turns t.mask=(fuel+1)+(N-n):=⟨10*turns t.mask-(N-n)-1,ω⟩;unfold SetTable.probe;rw[hf,v_ T (N-n) (fuel+1) n (fun m a b=>?_),show n+(N-n)=N from ω]
  ·show(match t.slot (pr t.mask h N).j with
    |.empty=>some (Met.empty (pr t.mask h N).j (pr t.mask h N).dummy)
    |.dummy=>probe.go t hashAt h fuel (t.advance {(pr t.mask h N) with dummy:=some (pr t.mask h N).j})
    |.live i=>if hashAt i==h then some (Met.candidate (pr t.mask h N).j i (t.advance (pr t.mask h N))) else probe.go t hashAt h fuel (t.advance (pr t.mask h N)))=_
   rw[show t.slot (pr t.mask h N).j=.live i from kd T h4];dsimp only;rw[if_pos (by simpa using l)]
   rfl
  ·obtain⟨f,e⟩:=hm m ω
   exact⟨f,e,g m f a ω e⟩
 ·left
  have g:∀m i,n<=m->m<ne->t.place[i]?=some (pos t.mask h m)->hashAt i≠h:=fun m i a b c d=>q ⟨m,a,b,i,c,d⟩;refine⟨?_,g⟩;obtain⟨fuel,hf⟩:∃fuel,10*turns t.mask=(fuel+1)+(ne-n):=⟨10*turns t.mask-(ne-n)-1,ω⟩;unfold SetTable.probe;rw[hf,v_ T (ne-n) (fuel+1) n (fun m a b=>?_),show n+(ne-n)=ne from ω]
  ·show(match t.slot (pr t.mask h ne).j with
    |.empty=>some (Met.empty (pr t.mask h ne).j (pr t.mask h ne).dummy)
    |.dummy=>probe.go t hashAt h fuel (t.advance {(pr t.mask h ne) with dummy:=some (pr t.mask h ne).j})
    |.live i=>if hashAt i==h then some (Met.candidate (pr t.mask h ne).j i (t.advance (pr t.mask h ne))) else probe.go t hashAt h fuel (t.advance (pr t.mask h ne)))=_
   rw[show t.slot (pr t.mask h ne).j=.empty from Gb T he];dsimp only;rw[Bj]
   rfl
  ·obtain⟨f,e⟩:=hm m ω
   exact⟨f,e,g m f a ω e⟩
def Gd(T:Tb t hs){h:Int}{ne k j:Nat}(he:¬eO t (pos t.mask h ne))(hk:hs[k]?=some h)(a:t.place[k]?=some j):∃N,N<ne/\pos t.mask h N=j:=by
 obtain⟨n,e,hm⟩:=T.path k j h hk a;refine⟨n,?_,e⟩;rcases Nat.lt_trichotomy n ne with q|q|q
 ·exact q
 ·subst q;exact absurd ⟨k,by rw[e];exact a⟩ he
 ·exact absurd (hm ne q) he
def Ge(T:Tb t hs){h:Int}{ne:Nat}(he:¬eO t (pos t.mask h ne))(hm:∀m,m<ne->eO t (pos t.mask h m))(hr:hs.size+1<=t.mask):(t.put (pos t.mask h ne)).2<=hs.size/\(t.put (pos t.mask h ne)).1.mask=t.mask/\Tb (t.put (pos t.mask h ne)).1 (insertAt hs (t.put (pos t.mask h ne)).2 h):=by
 have s:∀i:Nat,t.place[i]?≠some (pos t.mask h ne):=fun i e=>he ⟨i,e⟩;obtain⟨g,u,v⟩:=vX T.ris (pos t.mask h ne);have hb:below t.place (pos t.mask h ne)<=hs.size:=by rw[<-T.size];exact g
 have l:(t.put (pos t.mask h ne)).1.place=insertAt t.place (below t.place (pos t.mask h ne)) (pos t.mask h ne):=rfl;have mk:(t.put (pos t.mask h ne)).1.mask=t.mask:=rfl;have f:∀j,eO t j->∃r:Nat,(t.put (pos t.mask h ne)).1.place[r]?=some j:=fun j ⟨i,e⟩=>by
  by_cases q:i<below t.place (pos t.mask h ne)
  ·exact⟨i,by rw[l,e' _ _ _ g,if_pos q];exact e⟩
  ·exact⟨i+1,by rw[l,e' _ _ _ g,if_neg ω,if_neg ω,Nat.add_sub_cancel];exact e⟩
 refine⟨hb,mk,⟨?_,?_,?_,fun i j e=>?_,T.cov,T.odd,?_,fun k j h' e1 e2=>?_⟩⟩
 ·rw[l];exact F7 T.ris s
 ·show(if has t.dummies (pos t.mask h ne)=true then _ else t.dummies)=#[]
  rw[T.dum]
  rfl
 ·rw[l,ow _ _ _ g]
  show _=(insertAt hs (below t.place (pos t.mask h ne)) h).size;rw[ow _ _ _ hb,T.size]
 ·rw[l,e' _ _ _ g] at e
  rw[mk]
  by_cases o:i<below t.place (pos t.mask h ne)
  ·rw[if_pos o] at e;exact T.le _ _ e
  ·rw[if_neg o] at e
   by_cases p:i=below t.place (pos t.mask h ne)
   ·rw[if_pos p] at e;cases e;exact eH _ _ _
   ·rw[if_neg p] at e;exact T.le _ _ e
 ·show(insertAt hs (below t.place (pos t.mask h ne)) h).size<=t.mask
  rw[ow _ _ _ hb];exact hr
 ·have d:(insertAt hs (below t.place (pos t.mask h ne)) h)[k]?=some h':=e1
  rw[e' _ _ _ hb] at d;rw[l,e' _ _ _ g] at e2;rw[mk]
  by_cases o:k<below t.place (pos t.mask h ne)
  ·rw[if_pos o] at d e2
   obtain⟨n,a,b⟩:=T.path k j h' d e2;exact⟨n,a,fun m c=>f _ (b m c)⟩
  ·rw[if_neg o] at d e2
   by_cases p:k=below t.place (pos t.mask h ne)
   ·rw[if_pos p] at d e2
    cases d;cases e2;exact⟨ne,rfl,fun m c=>f _ (hm m c)⟩
   ·rw[if_neg p] at d e2
    obtain⟨n,a,b⟩:=T.path (k-1) j h' d e2;exact⟨n,a,fun m c=>f _ (b m c)⟩
end
def v'(finger moves:Nat)(led:Bool):Tb (SetTable.fresh finger moves led) #[]:=
 ⟨fun i j a b h=>by simp[SetTable.fresh] at h,rfl,rfl,fun i j h=>by simp[SetTable.fresh] at h,v9,show 7%2=1 from rfl,show 0<=7 from AT _,fun k j h e=>by simp at e⟩
def Own(a:Array (Option Nat))(j:Nat):Prop:=∃q,a[j]?=some (some q)
def da(mask:Nat)(h:Int):Nat->Nat
 |0=>0
 |r+1=>da mask h r+(runEnd mask (lp mask h r).1-(lp mask h r).1)+1
def Gf(mask:Nat)(h:Int){r R:Nat}(hr:r<=R):da mask h r<=da mask h R:=by
 induction hr with
 |refl=>exact Ag _
 |step _ ih=>exact AA ih (by show _<=da mask h _+_+1;omega)
def we(mask:Nat)(h:Int):∀r,pr mask h (da mask h r)={j:=(lp mask h r).1,more:=runEnd mask (lp mask h r).1-(lp mask h r).1,i:=(lp mask h r).1,perturb:=(lp mask h r).2,dummy:=none}
 |0=>rfl
 |r+1=>by
  show fo mask (pr mask h (da mask h r+(runEnd mask (lp mask h r).1-(lp mask h r).1)))=_;rw[oA mask h (we mask h r) _ (Ag _)];unfold fo;rw[if_neg (by show ¬(runEnd mask (lp mask h r).1-(lp mask h r).1-(runEnd mask (lp mask h r).1-(lp mask h r).1)>0);omega)]
  rfl
def wg{a:Array (Option Nat)}{mask j:Nat}(d:a.size=mask+1)(f:j<=mask):(a.getD j (some 0)).isNone=true↔¬Own a j:=by
 have b:j<a.size:=ω
 have e:a.getD j (some 0)=a[j]:=by simp[Array.getD,b]
 have e2:a[j]?=some a[j]:=getElem?_pos a j b;rw[e];constructor
 ·intro h ⟨q,hq⟩
  rw[e2] at hq;rw[Ai hq] at h;cases h
 ·intro h
  cases c:a[j] with
  |none=>rfl
  |some q=>exact absurd ⟨q,by rw[e2,c]⟩ h
def Gg{mask:Nat}{a:Array (Option Nat)}(e:a.size=mask+1)(h:Int){ne R:Nat}(he:¬Own a (pos mask h ne))(hm:∀m,m<ne->Own a (pos mask h m))(hR:ne<=da mask h R):∀(fuel r:Nat),da mask h r<=ne->R<r+fuel->layClean.free mask a fuel (lp mask h r).1 (lp mask h r).2=some (pos mask h ne):=by
 intro fuel
 induction fuel with
 |zero=>
  intro r h1 h2;have q:=Gf mask h (r:=R+1) (R:=r) ω;have:da mask h (R+1)=da mask h R+(runEnd mask (lp mask h R).1-(lp mask h R).1)+1:=rfl;omega
 |succ fuel ih=>
  intro r i hr;have walk:=oA mask h (we mask h r);have c:∀k,k<=runEnd mask (lp mask h r).1-(lp mask h r).1->pos mask h (da mask h r+k)=(lp mask h r).1+k:=fun k hk=>by
   unfold pos;rw[walk k hk]
  have f:(lp mask h r).1<=runEnd mask (lp mask h r).1:=by unfold runEnd;split<;>omega
  have b:∀k,k<=runEnd mask (lp mask h r).1-(lp mask h r).1->(lp mask h r).1+k<=mask:=fun k hk=>by rw[<-c k hk];exact eH _ _ _
  show(match (List.range (runEnd mask (lp mask h r).1+1-(lp mask h r).1)).find? (fun k=>(a.getD ((lp mask h r).1+k) (some 0)).isNone) with
   |some k=>some ((lp mask h r).1+k)
   |none=>layClean.free mask a fuel (leap mask (lp mask h r).1 (lp mask h r).2).1 (leap mask (lp mask h r).1 (lp mask h r).2).2)=_
  by_cases g:ne<=da mask h r+(runEnd mask (lp mask h r).1-(lp mask h r).1)
  ·have d:(List.range (runEnd mask (lp mask h r).1+1-(lp mask h r).1)).find? (fun k=>(a.getD ((lp mask h r).1+k) (some 0)).isNone)=some (ne-da mask h r):=by
    rw[List.find?_range_eq_some];refine⟨?_,List.mem_range.mpr ω,fun k hk=>?_⟩
    ·show(a.getD ((lp mask h r).1+(ne-da mask h r)) (some 0)).isNone=true
     rw[wg e (b _ ω),<-c _ ω,show da mask h r+(ne-da mask h r)=ne from ω];exact he
    ·have q:¬(a.getD ((lp mask h r).1+k) (some 0)).isNone=true:=by
      rw[wg e (b _ ω),<-c k ω];exact fun z=>z (hm _ ω)
     rw[Bool.not_eq_true] at q;rw[q]
     rfl
   rw[d];dsimp only;rw[<-c _ ω,show da mask h r+(ne-da mask h r)=ne from ω]
  ·have d:(List.range (runEnd mask (lp mask h r).1+1-(lp mask h r).1)).find? (fun k=>(a.getD ((lp mask h r).1+k) (some 0)).isNone)=none:=by
    rw[List.find?_eq_none];intro k hk;have hk':=List.mem_range.mp hk;rw[wg e (b _ ω),<-c k ω];exact fun z=>z (hm _ ω)
   rw[d];dsimp only;refine ih (r+1) ?_ ω;show da mask h r+(runEnd mask (lp mask h r).1-(lp mask h r).1)+1<=ne;omega
structure Lay(mask:Nat)(aj:List Int)(ae:Array (Option Nat))(k:Nat):Prop where
 size:ae.size=mask+1
 all:∀q:Nat,q<k->∃j:Nat,ae[j]?=some (some q)
 back:∀j q:Nat,ae[j]?=some (some q)->q<k
 one:∀(i j q:Nat),ae[i]?=some (some q)->ae[j]?=some (some q)->i=j
 path:∀(j q:Nat)(h:Int),ae[j]?=some (some q)->aj[q]?=some h->∃n,pos mask h n=j/\∀m,m<n->Own ae (pos mask h m)
def Lay.room{mask:Nat}{i:List Int}{c:Array (Option Nat)}{k:Nat}(L:Lay mask i c k)(hk:k<=mask):∃x,x<=mask/\¬Own c x:=by
 apply Classical.byContradiction;intro f;have all:∀x,x<=mask->∃q,q<k/\c[x]?=some (some q):=fun x hx=>by
  have:Own c x:=Classical.byContradiction fun q=>f ⟨x,hx,q⟩;obtain⟨q,e⟩:=this;exact⟨q,L.back x q e,e⟩
 have sub:((List.range (mask+1)).map fun x=>(c.getD x none).getD 0) ⊆ List.range k:=fun y hy=>by
  obtain⟨x,hx,e⟩:=List.mem_map.mp hy;obtain⟨q,hq,e2⟩:=all x (Nat.lt_succ_iff.mp (List.mem_range.mp hx));rw[Array.getD_eq_getD_getElem?,e2] at e;subst e;exact List.mem_range.mpr hq
 have h:((List.range (mask+1)).map fun x=>(c.getD x none).getD 0).Nodup:=by
  refine List.nodup_iff_pairwise_ne.mpr (List.pairwise_map.mpr ?_);refine List.Pairwise.imp_of_mem ?_ (List.nodup_iff_pairwise_ne.mp (List.nodup_range (n:=mask+1)));intro a b g hb d e;obtain⟨q,_,e1⟩:=all a (Nat.lt_succ_iff.mp (List.mem_range.mp g));obtain⟨p,_,e2⟩:=all b (Nat.lt_succ_iff.mp (List.mem_range.mp hb));simp only[Array.getD_eq_getD_getElem?,e1,e2,Option.getD_some] at e;subst e;exact d (L.one a b q e1 e2)
 have:=h.length_le_of_subset sub;rw[Ab,List.length_range,List.length_range] at this;omega
def Gh{a:Array (Option Nat)}{mask j k:Nat}(b:a.size=mask+1)(c:j<=mask)(i:Nat):(a.setIfInBounds j (some k))[i]?=if i=j then some (some k) else a[i]?:=by
 by_cases q:i=j
 ·subst q
  rw[if_pos rfl,Array.getElem?_setIfInBounds_self_of_lt ω]
 ·rw[if_neg q,Array.getElem?_setIfInBounds_ne (Ne.symm q)]
def Lay.step{mask:Nat}{g:List Int}{c:Array (Option Nat)}{k:Nat}{h:Int}(hc:eE mask)(L:Lay mask g c k)(hk:k<=mask)(s:g[k]?=some h):∃j,layClean.free mask c (turns mask) (bits h%(mask+1)) (bits h)=some j/\Lay mask g (c.setIfInBounds j (some k)) (k+1):=by
 obtain⟨x,hx,fx⟩:=L.room hk;obtain⟨d,hd,e⟩:=hc (lp mask h 13).1 x (Bm mask h 13) hx;have r:pos mask h (da mask h (13+d))=x:=by
  unfold pos;rw[we];show(lp mask h (13+d)).1=x;rw[v0,e]
 obtain⟨ne,h1,h2,p⟩:=least (P:=fun m=>¬Own c (pos mask h m)) (da mask h (13+d)) (by rw[r];exact fx);have hm:∀m,m<ne->Own c (pos mask h m):=fun m q=>Classical.byContradiction fun z=>p m q z;refine⟨pos mask h ne,Gg L.size h h2 hm h1 (turns mask) 0 (AT _) (by unfold turns;omega),?_⟩;have f:pos mask h ne<=mask:=eH _ _ _;have sg:=Gh (k:=k) L.size f;have own:∀i,Own c i->Own (c.setIfInBounds (pos mask h ne) (some k)) i:=fun i ⟨q,e⟩=>by
  by_cases z:i=pos mask h ne
  ·exact⟨k,by rw[sg,if_pos z]⟩
  ·exact⟨q,by rw[sg,if_neg z];exact e⟩
 refine⟨by rw[Array.size_setIfInBounds];exact L.size,fun q hq=>?_,fun j q e=>?_,fun i j q e1 e2=>?_,fun j q h' e1 e2=>?_⟩
 ·by_cases z:q=k
  ·exact⟨pos mask h ne,by rw[sg,if_pos rfl,z]⟩
  ·obtain⟨j,l⟩:=L.all q ω
   refine⟨j,?_⟩;rw[sg,if_neg fun w=>h2 ⟨q,by rw[<-w];exact l⟩];exact l
 ·rw[sg] at e
  by_cases z:j=pos mask h ne
  ·rw[if_pos z] at e;cases e;omega
  ·rw[if_neg z] at e;have:=L.back j q e;omega
 ·rw[sg] at e1 e2
  by_cases o:i=pos mask h ne
  ·rw[if_pos o] at e1;cases e1
   by_cases z2:j=pos mask h ne
   ·omega
   ·rw[if_neg z2] at e2;have:=L.back j k e2;omega
  ·rw[if_neg o] at e1
   by_cases z2:j=pos mask h ne
   ·rw[if_pos z2] at e2;cases e2;have:=L.back i k e1;omega
   ·rw[if_neg z2] at e2;exact L.one i j q e1 e2
 ·rw[sg] at e1
  by_cases z:j=pos mask h ne
  ·rw[if_pos z] at e1;cases e1
   rw[s] at e2;cases e2;exact⟨ne,z.symm,fun m q=>own _ (hm m q)⟩
  ·rw[if_neg z] at e1
   obtain⟨n,a,b⟩:=L.path j q h' e1 e2;exact⟨n,a,fun m q=>own _ (b m q)⟩
def Lay.nil(mask:Nat)(b:List Int):Lay mask b (Array.replicate (mask+1) none) 0:=by
 have a:∀(j q:Nat),(Array.replicate (mask+1) (none:Option Nat))[j]?=some (some q)->False:=fun j q e=>by
  rw[Array.getElem?_replicate] at e;split at e<;>cases e
 exact⟨by simp,fun q h=>absurd h (Nat.not_lt_zero _),fun j q e=>(a j q e).elim,fun i j q e=>(a i q e).elim,fun j q h e=>(a j q e).elim⟩
def Gj{mask:Nat}(hc:eE mask)(d:Array Int)(hk:d.size<=mask+1):∃c,layClean mask d=some c/\Lay mask d.toList c d.size:=by
 have go:∀(rest:List Int)(c:Array (Option Nat))(k:Nat),Lay mask d.toList c k->d.toList.drop k=rest->
   ∃g,(rest.foldl (fun acc h=>do
    let (c,k) <-acc
    let j <-layClean.free mask c (turns mask) (bits h%(mask+1)) (bits h)
    pure (c.setIfInBounds j (some k),k+1)) (some (c,k)))=some (g,k+rest.length)/\Lay mask d.toList g (k+rest.length):=by
  intro rest
  induction rest with
  |nil=>intro c k L _;exact⟨c,rfl,L⟩
  |cons h rest ih=>
   intro c k L e;have f:k<d.toList.length:=by
    rcases Nat.lt_or_ge k d.toList.length with q|q
    ·exact q
    ·rw[List.drop_eq_nil_of_le q] at e;cases e
   have l:d.toList[k]?=some h:=by
    rw[List.drop_eq_getElem_cons f] at e;injection e with e1 _
    rw[Af f,e1]
   have p:d.toList.drop (k+1)=rest:=by
    rw[List.drop_eq_getElem_cons f] at e;injection e
   rw[Au] at f;obtain⟨j,i,r⟩:=L.step hc ω l;obtain⟨o',a,b⟩:=ih (c.setIfInBounds j (some k)) (k+1) r p;refine⟨o',?_,?_⟩
   ·rw[List.foldl_cons]
    show List.foldl _ (layClean.free mask c (turns mask) (bits h%(mask+1)) (bits h) >>= fun j=>pure (c.setIfInBounds j (some k),k+1)) rest=_;rw[i];show List.foldl _ (some (c.setIfInBounds j (some k),k+1)) rest=_;rw[a,Ap,show k+1+rest.length=k+(rest.length+1) from ω]
   ·rw[Ap,show k+(rest.length+1)=k+1+rest.length from ω]
    exact b
 obtain⟨o,a,b⟩:=go d.toList _ 0 (Lay.nil mask _) rfl;rw[Nat.zero_add,Au] at a b;refine⟨o,?_,b⟩;unfold layClean;rw[<-Array.foldl_toList,a]
 rfl
def cB(a:Array (Option Nat))(n:Nat):List (Nat×Nat):=(List.range n).filterMap fun j=>(a.getD j none).map (j,·)
def iQ{a:Array (Option Nat)}{n:Nat}{x:Nat×Nat}:x∈cB a n↔x.1<n/\a[x.1]?=some (some x.2):=by
 unfold cB;rw[List.mem_filterMap];constructor
 ·rintro⟨j,b,e⟩
  rw[Option.map_eq_some_iff] at e;obtain⟨q,e1,rfl⟩:=e;refine⟨List.mem_range.mp b,?_⟩;rw[Array.getD_eq_getD_getElem?] at e1;cases c:a[j]? with
  |none=>rw[c] at e1;cases e1
  |some v=>rw[c] at e1;simp only[Option.getD_some] at e1;rw[e1]
 ·rintro⟨h1,h2⟩
  refine⟨x.1,List.mem_range.mpr h1,?_⟩;rw[Array.getD_eq_getD_getElem?,h2]
  rfl
def Bp(d:Array (Option Nat))(n:Nat):(cB d n).Pairwise fun x y=>x.1<y.1:=by
 unfold cB;refine List.Pairwise.filterMap (S:=fun x y:Nat×Nat=>x.1<y.1) _ ?_ (List.pairwise_lt_range (n:=n));intro a e h b hb f c;rw[Option.map_eq_some_iff] at hb c;obtain⟨_,_,rfl⟩:=hb;obtain⟨_,_,rfl⟩:=c;exact h
def Gr{mask:Nat}{s:List Int}{c:Array (Option Nat)}{k:Nat}(L:Lay mask s c k):(cB c (mask+1)).length=k/\((cB c (mask+1)).map (·.2)).Nodup:=by
 have f:((cB c (mask+1)).map (·.2)).Nodup:=by
  refine List.nodup_iff_pairwise_ne.mpr (List.pairwise_map.mpr ?_);refine List.Pairwise.imp_of_mem ?_ (Bp c (mask+1));intro a b g hb h e;have h1:=(iQ.mp g).2;have h2:=(iQ.mp hb).2;rw[<-e] at h2;have:=L.one _ _ _ h1 h2;omega
 refine⟨?_,f⟩;have i:(cB c (mask+1)).map (·.2) ⊆ List.range k:=fun q hq=>by
  obtain⟨x,hx,rfl⟩:=List.mem_map.mp hq;exact List.mem_range.mpr (L.back _ _ (iQ.mp hx).2)
 have l:List.range k ⊆ (cB c (mask+1)).map (·.2):=fun q hq=>by
  obtain⟨j,d⟩:=L.all q (List.mem_range.mp hq);have o:j<mask+1:=by rw[<-L.size];exact(Array.getElem?_eq_some_iff.mp d).1
  exact List.mem_map.mpr ⟨(j,q),iQ.mpr ⟨o,d⟩,rfl⟩
 have p:=f.length_le_of_subset i;have r:=(List.nodup_range (n:=k)).length_le_of_subset l;rw[Ab,List.length_range] at p;rw[List.length_range,Ab] at r;omega
def Gs{mask:Nat}(hc:eE mask)(I:mask%2=1)(finger moves:Nat)(led plain:Bool)(d:Array Int)(hk:d.size<=mask):∃t f,laid mask finger moves led plain d=some (t,f)/\t.mask=mask/\t.led=led/\t.plain=plain/\f.size=d.size/\f.toList.Nodup/\(∀q∈f.toList,q<d.size)/\
   Tb t (f.map fun q=>(d[q]?).getD 0):=by
 obtain⟨c,e,L⟩:=Gj hc d ω;obtain⟨v,z⟩:=Gr L;refine⟨_,_,by unfold laid;rw[e];exact rfl,rfl,rfl,rfl,?_,?_,?_,?_⟩
 ·show((cB c (mask+1)).map (·.2)).toArray.size=_
  rw[Aj,Ab,v]
 ·exact z
 ·intro q hq
  obtain⟨x,hx,rfl⟩:=List.mem_map.mp (show q∈(cB c (mask+1)).map (·.2) from hq);exact L.back _ _ (iQ.mp hx).2
 ·have g:∀i:Nat,(((cB c (mask+1)).map (·.1)).toArray)[i]?=((cB c (mask+1))[i]?).map (·.1):=fun i=>by
   rw[List.getElem?_toArray,Ao]
  have D:∀i:Nat,(((cB c (mask+1)).map (·.2)).toArray)[i]?=((cB c (mask+1))[i]?).map (·.2):=fun i=>by
   rw[List.getElem?_toArray,Ao]
  have r:∀j,Own c j->∃i:Nat,(((cB c (mask+1)).map (·.1)).toArray)[i]?=some j:=fun j ⟨q,l⟩=>by
   have p:j<mask+1:=by rw[<-L.size];exact(Array.getElem?_eq_some_iff.mp l).1
   obtain⟨i,hi,A⟩:=List.mem_iff_getElem.mp (iQ.mpr ⟨p,l⟩:(j,q)∈cB c (mask+1));exact⟨i,by rw[g,Af hi,A];rfl⟩
  refine⟨fun i j a b w hb o=>?_,rfl,?_,fun i j l=>?_,hc,I,?_,fun k j h e1 e2=>?_⟩
  ·have E:((cB c (mask+1))[i]?).map (·.1)=some a:=by rw[<-g];exact w
   have s:((cB c (mask+1))[j]?).map (·.1)=some b:=by rw[<-g];exact hb
   obtain⟨x,ex,rfl⟩:=Option.map_eq_some_iff.mp E;obtain⟨y,C,rfl⟩:=Option.map_eq_some_iff.mp s;obtain⟨hi,rfl⟩:=List.getElem?_eq_some_iff.mp ex;obtain⟨p,rfl⟩:=List.getElem?_eq_some_iff.mp C;exact List.pairwise_iff_getElem.mp (Bp c (mask+1)) i j hi p o
  ·show((cB c (mask+1)).map (·.1)).toArray.size=(Array.map _ ((cB c (mask+1)).map (·.2)).toArray).size
   rw[Array.size_map,Aj,Aj,Ab,Ab]
  ·have F:((cB c (mask+1))[i]?).map (·.1)=some j:=by rw[<-g];exact l
   obtain⟨x,ex,rfl⟩:=Option.map_eq_some_iff.mp F;exact Nat.lt_succ_iff.mp (iQ.mp (Ay ex)).1
  ·show(Array.map _ ((cB c (mask+1)).map (·.2)).toArray).size<=mask
   rw[Array.size_map,Aj,Ab,v];exact hk
  ·have G:((cB c (mask+1))[k]?).map (·.1)=some j:=by rw[<-g];exact e2
   obtain⟨x,ex,rfl⟩:=Option.map_eq_some_iff.mp G;have u:(Array.map (fun q=>(d[q]?).getD 0) ((cB c (mask+1)).map (·.2)).toArray)[k]?=some h:=e1;rw[Array.getElem?_map,D,ex] at u;have hx:=(iQ.mp (Ay ex)).2;have hq:=L.back _ _ hx;have H:d.toList[x.2]?=some h:=by
    rw[AM];have:d[x.2]?=some d[x.2]:=getElem?_pos d x.2 hq;simp only[A7,this,Option.getD_some] at u;rw[this,Ai u]
   obtain⟨n,a,b⟩:=L.path x.1 x.2 h hx H;exact⟨n,a,fun m hm=>r _ (b m hm)⟩
section
variable{prog:Program}{w:World}{K:Type}[DecidableEq K]{knd:KeyKind prog w K}{A:Around}{E:Ω}{s:Shared}
def fits_of{t:SetTable}{es:Array (Int×Value)}(T:Tb t (es.map (·.1))):t.fits es.size=true:=by
 have h1:=T.size;have h2:=T.room;rw[Array.size_map] at h1 h2;unfold SetTable.fits SetTable.fill;rw[T.dum,h1];simp;exact h2
def Gu(n:Nat){v:Value}(h:carriedByValue v=true):ofAClassStatement n v=pure false:=by
 cases v with
 |ref a=>simp[carriedByValue] at h
 |_=>cases n<;>rfl
def Bq{ks:List K}{b:Addr}{Q:Bool->Shared->Prop}(hk:AH knd s.heap ks b)(h:Q false s):wpAny (model prog w) A (ofAClassStatement 8 (.ref b)) Q E s:=by
 have f:=hk.typeIs;obtain⟨o,d,n,e,_,hd,hi⟩:=hk;unfold ofAClassStatement;refine Aa (wpAny_typeOf f ?_);show wpAny _ _ ((if("tuple" == "tuple")=true then pure true else isSubtype (.type "tuple") (.type "tuple")) >>= _) _ _ s;rw[if_pos ξ];refine Aa (Ac ?_);simp only[Bool.not_true,An,if_false];refine Aa (wpAny_seqItems e hd ?_);refine Aa ?_;show wpAny _ _ (forIn d _ _) _ _ s;rw[<-Array.forIn_toList];refine wpAny_forIn_list _ (fun rest r s'=>r.1=none/\s'=s/\∀v∈rest,carriedByValue v=true) _ ?_ ?_ _ _ ⟨rfl,rfl,hi.byValue⟩
 ·rintro v rest r s' ⟨hr,rfl,a⟩
  rw[Gu _ (a v Am)];refine Aa (Ac ?_);simp only[An,if_false];exact Ac ⟨rfl,rfl,fun u c=>a u (Av _ c)⟩
 ·rintro⟨g,i⟩ s' ⟨hr,rfl,_⟩
  simp only at hr;subst hr;exact Ac h
def Gv{ks:List K}{b:Addr}{ys:List Value}{Q:Bool->Shared->Prop}(hk:AH knd s.heap ks b)(hy:∀y∈ys,∃d c,y=.ref c/\AH knd s.heap d c)(h:Q false s):wpAny (model prog w) A (searchCouldBeSeen (.ref b) ys) Q E s:=by
 unfold searchCouldBeSeen;refine Aa ?_;refine wpAny_forIn_list _ (fun rest r s'=>r.1=none/\s'=s/\∀y∈rest,∃d c,y=.ref c/\AH knd s.heap d c) _ ?_ ?_ _ _ ⟨rfl,rfl,hy⟩
 ·rintro v rest r s' ⟨hr,rfl,a⟩
  obtain⟨d,c,rfl,hc⟩:=a v Am;have nx:∀u∈rest,∃d c,u=.ref c/\AH knd s'.heap d c:=fun u e=>a u (Av _ e);dsimp only;split
  ·exact Ac ⟨rfl,rfl,nx⟩
  ·refine Aa (wpAny_eqIsQuiet_tuple hk ?_)
   simp only[Bool.not_true,An,if_false];refine Aa (wpAny_eqIsQuiet_tuple hc ?_);simp only[Bool.not_true,An,if_false];refine Aa (Bq hk ?_);simp only[An,if_false];refine Aa (Bq hc ?_);simp only[An,if_false];exact Ac ⟨rfl,rfl,nx⟩
 ·rintro⟨f,g⟩ s' ⟨hr,rfl,_⟩
  simp only at hr;subst hr;exact Ac h
structure TS(knd:KeyKind prog w K)(h:Heap)(S:Addr)(o:Obj)(es:Array (Int×Value))(ep:Nat)(t:SetTable)(ks:List (List K))(B:List Addr):Prop where
 at_:h.get? S=some o
 ex:o.ExactSet
 dt:o.data=.set es ep t
 tb:Tb t (es.map (·.1))
 sz:es.size=ks.length
 nd:ks.Nodup
 el:∀e∈es.toList,∃k b,k∈ks/\e=(Aw knd k,Value.ref b)/\AH knd h k b
 ke:∀k∈ks,∃b,(Aw knd k,Value.ref b)∈es.toList/\AH knd h k b
 msk:(t.mask=7/\es.size<=4)\/(t.mask=31/\es.size<=18)\/(t.mask=127/\es.size<=76)\/(t.mask=15/\es.size<=8)\/(t.mask=63/\es.size<=37)\/(t.mask=255/\es.size<=152)
 ad:∀e∈es.toList,∃b∈B,e.2=Value.ref b
 wk:w.params.followText "set-order"=true\/(t.led=true/\t.plain=true)
def Br{B:List Addr}{S:Addr}{o:Obj}{es:Array (Int×Value)}{ep:Nat}{t:SetTable}{ks:List (List K)}(X:TS knd s.heap S o es ep t ks B)(hu:A.units<cLine){k:List K}{b:Addr}(hk:AH knd s.heap k b){ne:Nat}(F:ne<10*turns t.mask)(he:¬eO t (pos t.mask (Aw knd k) ne))(hm:∀m,m<ne->eO t (pos t.mask (Aw knd k) m)){add:Bool}{Q:SetFound->Shared->Prop}(h1:k∈ks->∀r:Option Nat,(add=false->r.isSome=true)->Q (.there r) s)(h2:k∉ks->Q (.free (pos t.mask (Aw knd k) ne) false) s):∀(fuel n:Nat)(f:Option Probe),ne<n+fuel->n<=ne->f.getD (t.probeStart (Aw knd k))=pr t.mask (Aw knd k) n->
   (∀(m i:Nat)(c:Addr),m<n->t.place[i]?=some (pos t.mask (Aw knd k) m)->es[i]?=some (Aw knd k,Value.ref c)->¬AH knd s.heap k c)->
   wpAny (model prog w) A (setSearchFrom S (.ref b) (Aw knd k) add fuel f) Q E s:=by
 have T:=X.tb;have v:=fits_of T;have Z:∀i:Nat,(es.map (·.1))[i]?=(es[i]?).map (·.1):=fun i=>Array.getElem?_map ..;intro fuel
 induction fuel with
 |zero=>intro n f L G _ _;omega
 |succ fuel ih=>
  intro n f L G M H;unfold setSearchFrom;refine Aa (Bb X.at_ X.dt v ?_);dsimp only;have gw:t.gaveWay=false:=by
   unfold SetTable.gaveWay;rw[T.odd]
   rfl
  rw[gw];simp only[An,if_false];rw[M];rcases probe_spec T (hashAt:=fun i=>((es[i]?).map (·.1)).getD 0) F he hm G with ⟨cK,none_⟩|⟨N,i,b1,b2,b3,b4,b5,b6⟩
  ·have kL:t.probe (fun i=>((es[i]?).map (·.1)).getD 0) (Aw knd k) (pr t.mask (Aw knd k) n)=some (.empty (pos t.mask (Aw knd k) ne) none):=cK
   show wpAny _ _ (match t.probe (fun i=>((es[i]?).map (·.1)).getD 0) (Aw knd k) (pr t.mask (Aw knd k) n) with|some met=>_|_=>_) _ _ s;rw[kL];dsimp only;refine Ac (h2 fun l=>?_);obtain⟨c,O,P⟩:=X.ke k l;obtain⟨i,hi,a⟩:=List.mem_iff_getElem.mp O;have x:es[i]?=some (Aw knd k,.ref c):=by
    rw[<-AM,Af hi,a]
   have C:i<t.place.size:=by rw[T.size,Array.size_map];simpa using hi
   have D:t.place[i]?=some t.place[i]:=getElem?_pos t.place i C;obtain⟨N,U,J⟩:=Gd T he (k:=i) (by rw[Z,x];rfl) D;rcases Nat.lt_or_ge N n with q|q
   ·exact H N i c q (by rw[J];exact D) x P
   ·exact none_ N i q U (by rw[J];exact D) (by show((es[i]?).map (·.1)).getD 0=_;rw[x];rfl)
  ·show wpAny _ _ (match t.probe (fun i=>((es[i]?).map (·.1)).getD 0) (Aw knd k) (pr t.mask (Aw knd k) n) with|some met=>_|_=>_) _ _ s
   rw[b5];dsimp only;have hi:i<es.size:=by
    have:=(Array.getElem?_eq_some_iff.mp b3).1;rw[T.size,Array.size_map] at this;exact this
   have a:es[i]?=some es[i]:=getElem?_pos es i hi;obtain⟨h,c,hk',W,hc⟩:=X.el es[i] (by simp);rw[W] at a;have eh:Aw knd h=Aw knd k:=by
    have:((es[i]?).map (·.1)).getD 0=Aw knd k:=b4;rw[a] at this;exact this
   rw[eh] at a;have j:t.sameMemory t.moves t.mask=some true:=by unfold SetTable.sameMemory;rw[if_pos (by simp)]
   have d:h≠k->wpAny (model prog w) A (setSearchFrom S (.ref b) (Aw knd k) add fuel (some (pr t.mask (Aw knd k) (N+1)))) Q E s:=fun eq=>by
    refine ih (N+1) _ ω ω rfl fun m i2 p q1 u g I=>?_;rcases Nat.lt_or_ge m n with z|z
    ·exact H m i2 p z u g I
    ·rcases Nat.lt_or_ge m N with z2|z2
     ·exact b6 m i2 z z2 u (by show((es[i2]?).map (·.1)).getD 0=_;rw[g];rfl)
     ·have:m=N:=ω
      subst this;have:=T.ris.inj u b3;subst this;rw[a] at g;cases g;exact eq (IsTupleKey.inj hc I)
   cases led:t.led
   all_goals simp only[Bool.not_true,Bool.not_false,An,if_true,if_false]
   ·refine Aa (Gv hk (fun y hy=>?_) ?_)
    ·obtain⟨e,he',rfl⟩:=List.mem_map.mp hy
     rw[Array.toList_filter] at he';obtain⟨k2,p,_,e2,Y⟩:=X.el e (List.mem_filter.mp he').1;exact⟨k2,p,by rw[e2],Y⟩
    simp only[An,if_false];rw[a];refine Aa (AU (wpAny_eqBool_tuple hu hc hk ?_));refine Aa (Bb X.at_ X.dt v ?_)
    by_cases eq:h=k
    ·subst eq
     cases add
     ·simp only[decide_true,A9,An,if_false]
      rw[j];simp only[if_true];rw[kd T b3];dsimp only;rw[a];refine Aa (wpAny_isSame_ref_self (Aa (Ac ?_)));simp only[if_true];exact Ac (h1 hk' _ fun _=>rfl)
     ·simp only[decide_true,Bool.and_self,if_true]
      exact Ac (h1 hk' _ fun z=>by cases z)
    ·rw[decide_eq_false eq]
     simp only[AW,An,if_false];rw[j];simp only[if_true];rw[kd T b3];dsimp only;rw[a];refine Aa (wpAny_isSame_ref_self (Aa (Ac ?_)));simp only[if_true];exact d eq
   ·rw[a]
    refine Aa (AU (wpAny_eqBool_tuple hu hc hk ?_));refine Aa (Bb X.at_ X.dt v ?_)
    by_cases eq:h=k
    ·subst eq
     cases add
     ·simp only[decide_true,A9,An,if_false]
      rw[j];simp only[if_true];rw[kd T b3];dsimp only;rw[a];refine Aa (wpAny_isSame_ref_self (Aa (Ac ?_)));simp only[if_true];exact Ac (h1 hk' _ fun _=>rfl)
     ·simp only[decide_true,Bool.and_self,if_true]
      exact Ac (h1 hk' _ fun z=>by cases z)
    ·rw[decide_eq_false eq]
     simp only[AW,An,if_false];rw[j];simp only[if_true];rw[kd T b3];dsimp only;rw[a];refine Aa (wpAny_isSame_ref_self (Aa (Ac ?_)));simp only[if_true];exact d eq
def il{h h':Heap}{S b:Addr}{k:List K}{o:Obj}{es ep t}(hk:AH knd h k b)(f:h.get? S=some o)(hd:o.data=.set es ep t)(hs:AR S h h'):AH knd h' k b:=by
 obtain⟨o',e,n,d,hc,a,hi⟩:=hk;have c:b≠S:=by
  rintro rfl;obtain rfl:o'=o:=Ai (d.symm.trans f);rw[hd] at a;exact nomatch a
 exact⟨o',e,n,(hs.2 b c).trans d,hc,a,hi⟩
def Gw{ks:List K}{b:Addr}{Q:Bool->Shared->Prop}(g:∀k v n,knd.is k v=true->hashByValue n v=pure true)(hk:AH knd s.heap ks b)(h:Q true s):wpAny (model prog w) A (hashByValue 8 (.ref b)) Q E s:=by
 have f:=hk.typeIs;obtain⟨o,d,n,e,_,hd,hi⟩:=hk;unfold hashByValue;refine Aa (wpAny_specialOf f F.slot_tuple_hash.lookup ?_);dsimp only;refine Aa (wpAny_seqItems e hd ?_);refine Aa ?_;show wpAny _ _ (forIn d _ _) _ _ s;rw[<-Array.forIn_toList];refine wpAny_forIn_list _ (fun rest r s'=>r.1=none/\s'=s/\∃c,ItemsAre knd c rest) _ ?_ ?_ _ _ ⟨rfl,rfl,ks,hi⟩
 ·rintro v rest r s' ⟨hr,rfl,c,a⟩
  cases a with
  |@cons k _ ks'' _ h1 h2=>
   rw[g k v 7 h1];refine Aa (Ac ?_);simp only[Bool.not_true,An,if_false];exact Ac ⟨rfl,rfl,ks'',h2⟩
 ·rintro⟨i,j⟩ s' ⟨hr,rfl,_⟩
  simp only at hr;subst hr;exact Ac h
def Bs{h:Heap}{S:Addr}{o:Obj}{es:Array (Int×Value)}{ep:Nat}{t:SetTable}{a:Array (Int×Value)}{t':SetTable}(b:h.get? S=some o)(hd:o.data=.set es ep t):(h.update S (Obj.putSet a t')).get? S=some {o with data:=.set a (ep+1) t'}:=by
 have:=Heap.get?_update_self (Obj.putSet a t') b (by rw[putSet_of a t' hd];rfl);rw[putSet_of a t' hd] at this;exact this
def Bu{b:Type}{es:Array b}:∀{l:List Nat},(∀q∈l,q<es.size)->∃a:List b,l.filterMap (es[·]?)=a/\a.length=l.length/\(∀x∈a,x∈es.toList)/\(∀(i q:Nat),l[i]?=some q->a[i]?=es[q]?)
 |[],_=>⟨[],rfl,rfl,(fun x hx=>by cases hx),(fun i q e=>by cases i<;>simp at e)⟩
 |q::l,h=>by
  obtain⟨a,e1,e2,e3,c⟩:=Bu (l:=l) fun x hx=>h x (Av _ hx);have hq:=h q Am;refine⟨es[q]::a,?_,by rw[Ap,Ap,e2],fun x hx=>?_,fun i p e=>?_⟩
  ·rw[List.filterMap_cons,getElem?_pos es q hq,e1]
  ·rcases List.mem_cons.mp hx with rfl|hx
   ·simp
   ·exact e3 x hx
  ·cases i with
   |zero=>simp at e;subst e;simp[getElem?_pos es q hq]
   |succ i=>simp at e ⊢;exact c i p e
def Bv{B:List Addr}{S:Addr}{o:Obj}{es:Array (Int×Value)}{ep:Nat}{t:SetTable}{ks:List (List K)}{r a:Nat}(g:s.heap.get? S=some o)(hex:o.ExactSet)(hd:o.data=.set es ep t)(T:Tb t (es.map (·.1)))(hsz:es.size=ks.length)(X:ks.Nodup)(ad:∀e∈es.toList,∃b∈B,e.2=Value.ref b)(Y:∀e∈es.toList,∃k b,k∈ks/\e=(Aw knd k,Value.ref b)/\AH knd s.heap k b)(Z:∀k∈ks,∃b,(Aw knd k,Value.ref b)∈es.toList/\AH knd s.heap k b)(hw:SetTable.sizeAbove r-1=a)(fT:SetTable.sizeAbove r<=sizeLine)(hc:eE a)(ho:a%2=1)(hr:es.size<=a)(hz:es.size<=1000)(sR:(a=7/\es.size<=4)\/(a=31/\es.size<=18)\/(a=127/\es.size<=76)\/(a=15/\es.size<=8)\/(a=63/\es.size<=37)\/(a=255/\es.size<=152))(wk:w.params.followText "set-order"=true\/(t.led=true/\t.plain=true)){Q:Unit->Shared->Prop}(h:∀h' o' H I t',TS knd h' S o' H I t' ks B->AR S s.heap h'->Q () {s with heap:=h'}):wpAny (model prog w) A (setRelay S r) Q E s:=by
 have P:=fits_of T;unfold setRelay;refine Aa (Bb g hd P ?_);dsimp only;rw[if_neg (Nat.not_lt.mpr fT)];obtain⟨f,c,e1,e2,e3,J,u,L,j,M⟩:=Gs hc ho t.finger (t.movedTo a) t.led t.plain (es.map (·.1)) (by rw[Array.size_map];exact hr);have U:t.relaid (es.map (·.1)) r=some (f,c):=by
  unfold SetTable.relaid;rw[hw];exact e1
 rw[Array.size_map] at u j;obtain⟨d,f1,f2,f3,f4⟩:=Bu (es:=es) j;have F:c.filterMap (es[·]?)=d.toArray:=by
  apply Array.toList_inj.mp;rw[Array.toList_filterMap,f1]
 have l:d.length=es.size:=by rw[f2,Au,u]
 rw[U];refine Aa ?_;show wpAny _ _ (ite (((c.filterMap (es[·]?)).size != es.size)=true) _ _) _ _ _;rw[if_neg (by rw[F,Aj,l];simp),F];refine Ac ?_;dsimp only;have W:(d.toArray.map (·.1))=c.map fun q=>((es.map (·.1))[q]?).getD 0:=by
  apply Array.ext_getElem?;intro i;rw[Array.getElem?_map,Array.getElem?_map,List.getElem?_toArray];cases q:c[i]? with
  |none=>
   have:c.toList.length<=i:=by rw[Au];exact Array.getElem?_eq_none_iff.mp q
   rw[List.getElem?_eq_none ω]
   rfl
  |some p=>
   have e:=f4 i p (by rw[AM];exact q);have hp:=j p (by rw[<-AM] at q;exact Ay q);rw[e,getElem?_pos es p hp];simp[hp]
 have T2:Tb f (d.toArray.map (·.1)):=by rw[W];exact M
 have C:∀q,q<es.size->q∈c.toList:=fun q hq=>Classical.byContradiction fun z=>by
  have D:(q::c.toList).Nodup:=List.nodup_cons.mpr ⟨z,L⟩;have sub:(q::c.toList) ⊆ List.range es.size:=fun x hx=>by
   rcases List.mem_cons.mp hx with rfl|hx
   ·exact List.mem_range.mpr hq
   ·exact List.mem_range.mpr (j x hx)
  have:=D.length_le_of_subset sub;rw[Ap,Au,u,List.length_range] at this;omega
 refine wpAny_storeSet_of g hd ?_ (by rw[Aj,l,sizeLine_eq];omega);refine h _ {o with data:=.set d.toArray (ep+1) f} d.toArray (ep+1) f ?_ (A1 ..);have G:AR S s.heap (s.heap.update S (Obj.putSet d.toArray f)):=A1 ..;refine⟨Bs g hd,hex,rfl,T2,by rw[Aj,l];exact hsz,X,fun e he=>?_,fun k hk=>?_,?_,fun e he=>ad e (f3 e he),by rw[e3,J];exact wk⟩
 ·obtain⟨k,b,v,y,N⟩:=Y e (f3 e he)
  exact⟨k,b,v,y,il N g hd G⟩
 ·obtain⟨b,v,y⟩:=Z k hk
  refine⟨b,?_,il y g hd G⟩;obtain⟨q,hq,eq⟩:=List.mem_iff_getElem.mp v;rw[Au] at hq;obtain⟨i,hi,O⟩:=List.mem_iff_getElem.mp (C q hq);have e:=f4 i q (by rw[Af hi,O]);refine Ay (i:=i) ?_;rw[e,<-eq];simp[hq]
 ·rw[e2,Aj,l]
  exact sR
def ins_map{a b:Type}(f:a->b)(xs:Array a)(p:Nat)(x:a)(hp:p<=xs.size):(insertAt xs p x).map f=insertAt (xs.map f) p (f x):=by
 apply Array.ext_getElem?;intro i;rw[Array.getElem?_map,e' _ _ _ hp,e' _ _ _ (by rw[Array.size_map];exact hp),Array.getElem?_map,Array.getElem?_map]
 by_cases h1:i<p
 ·rw[if_pos h1,if_pos h1]
 ·rw[if_neg h1,if_neg h1]
  by_cases h2:i=p
  ·rw[if_pos h2,if_pos h2];rfl
  ·rw[if_neg h2,if_neg h2]
def ins_mem{a:Type}{xs:Array a}{p:Nat}{x y:a}(hp:p<=xs.size):y∈(insertAt xs p x).toList↔y=x\/y∈xs.toList:=by
 constructor
 ·intro h
  obtain⟨i,hi,e⟩:=List.mem_iff_getElem.mp h;have e2:(insertAt xs p x)[i]?=some y:=by rw[<-AM,Af hi,e]
  rw[e' _ _ _ hp] at e2
  by_cases h1:i<p
  ·rw[if_pos h1,<-AM] at e2;exact .inr (Ay e2)
  ·rw[if_neg h1] at e2
   by_cases h2:i=p
   ·rw[if_pos h2] at e2;exact .inl (Ai e2).symm
   ·rw[if_neg h2,<-AM] at e2;exact .inr (Ay e2)
 ·rintro(rfl|h)
  ·refine Ay (i:=p) ?_
   rw[AM,e' _ _ _ hp,if_neg (Nat.lt_irrefl _),if_pos rfl]
  ·obtain⟨i,hi,e⟩:=List.mem_iff_getElem.mp h
   have e2:xs[i]?=some y:=by rw[<-AM,Af hi,e]
   by_cases h1:i<p
   ·refine Ay (i:=i) ?_
    rw[AM,e' _ _ _ hp,if_pos h1];exact e2
   ·refine Ay (i:=i+1) ?_
    rw[AM,e' _ _ _ hp,if_neg ω,if_neg ω,Nat.add_sub_cancel];exact e2
def wh{B:List Addr}{S:Addr}{o:Obj}{es:Array (Int×Value)}{ep:Nat}{t:SetTable}{ks:List (List K)}(X:TS knd s.heap S o es ep t ks B)(hu:A.units<cLine)(hv:∀k v n,knd.is k v=true->hashByValue n v=pure true){k:List K}{b:Addr}(hk:AH knd s.heap k b)(iO:b∈B)(hn:ks.length<60){Q:Bool->Shared->Prop}(h:∀(r:Bool) h' o' bB cf t',TS knd h' S o' bB cf t' (if k∈ks then ks else ks++[k]) B->AR S s.heap h'->Q r {s with heap:=h'}):wpAny (model prog w) A (setAddHashed S (.ref b) (Aw knd k)) Q E s:=by
 unfold setAddHashed;refine AU ?_;have T:=X.tb;have cQ:=fits_of T;have X':TS knd s.heap S o es ep t ks B:=X;unfold setAddHashedIn;refine Aa (Bb (s:=s) X.at_ X.dt cQ ?_);dsimp only;have nb:byScan (.ref b) es=false:=rfl;rw[nb];simp only[An,if_false];obtain⟨ne,H,he,hm⟩:=Bo T (Aw knd k);refine Aa ?_;unfold setSearch;refine Br (s:=s) X' hu hk H he hm (fun U r0 _=>?_) (fun dN=>?_) 100000 0 none ?_ (AT _) rfl (fun m i c W=>absurd W (Nat.not_lt_zero _))
 ·dsimp only
  refine Ac (h false s.heap o es ep t ?_ (Heap.SameBut.refl ..));rw[if_pos U];exact X
 ·dsimp only
  refine Aa (Bb (s:=s) X.at_ X.dt cQ ?_);dsimp only;have iP:(es.map (·.1)).size+1<=t.mask:=by
   rw[Array.size_map];rcases X.msk with ⟨a,b⟩|⟨a,b⟩|⟨a,b⟩|⟨a,b⟩|⟨a,b⟩|⟨a,b⟩<;>omega
  obtain⟨p1,p2,p3⟩:=Ge T he hm iP;rw[Array.size_map] at p1;obtain⟨j,p,jj⟩:∃j p,t.put (pos t.mask (Aw knd k) ne)=(j,p):=⟨_,_,rfl⟩;rw[jj] at p1 p2 p3 ⊢;dsimp only at p1 p2 p3 ⊢;have gd:k∉ks:=dN;have F:(insertAt es p (Aw knd k,Value.ref b)).size=es.size+1:=ow _ _ _ p1;have I:=X.sz;have hle:es.size<60:=ω
  have J:∀d:SetTable,Tb d (insertAt (es.map (·.1)) p (Aw knd k))->d.mask=t.mask->wpAny (model prog w) A (storeSet S (insertAt es p (Aw knd k,Value.ref b)) d)
    (fun _ s'=>∃h',s'={s with heap:=h'}/\h'.get? S=some {o with data:=.set (insertAt es p (Aw knd k,Value.ref b)) (ep+1) d}/\AR S s.heap h') E s:=fun d T2 m2=>
   wpAny_storeSet_of (s:=s) X.at_ X.dt ⟨_,rfl,Bs X.at_ X.dt,A1 ..⟩ (by rw[F,sizeLine_eq];omega)
  have L:(insertAt es p (Aw knd k,Value.ref b)).map (·.1)=insertAt (es.map (·.1)) p (Aw knd k):=ins_map (·.1) es p _ p1;have iV:(ks++[k]).Nodup:=by
   rw[List.nodup_append];refine⟨X.nd,by simp,fun x hx y hy=>?_⟩;rw[List.mem_singleton.mp hy];exact fun z=>gd (z▸hx)
  have M:∀h',AR S s.heap h'->∀e∈(insertAt es p (Aw knd k,Value.ref b)).toList,∃D u,D∈ks++[k]/\e=(Aw knd D,Value.ref u)/\AH knd h' D u:=fun h' g e he=>by
   rcases(ins_mem p1).mp he with rfl|he
   ·exact⟨k,b,by simp,rfl,il hk X.at_ X.dt g⟩
   ·obtain⟨D,u,Y,Z,a3⟩:=X.el e he
    exact⟨D,u,List.mem_append_left _ Y,Z,il a3 X.at_ X.dt g⟩
  have N:∀h',AR S s.heap h'->∀D∈ks++[k],∃u,(Aw knd D,Value.ref u)∈(insertAt es p (Aw knd k,Value.ref b)).toList/\AH knd h' D u:=fun h' g D hk'=>by
   rcases List.mem_append.mp hk' with hk'|hk'
   ·obtain⟨u,Y,Z⟩:=X.ke D hk'
    exact⟨u,(ins_mem p1).mpr (.inr Y),il Z X.at_ X.dt g⟩
   ·rw[List.mem_singleton.mp hk']
    exact⟨b,(ins_mem p1).mpr (.inl rfl),il hk X.at_ X.dt g⟩
  have O:∀e∈(insertAt es p (Aw knd k,Value.ref b)).toList,∃u∈B,e.2=Value.ref u:=fun e he=>by
   rcases(ins_mem p1).mp he with rfl|he
   ·exact⟨b,iO,rfl⟩
   ·exact X.ad e he
  have C:∀(d:SetTable)(h':Heap),Tb d (insertAt (es.map (·.1)) p (Aw knd k))->d.mask=t.mask->(w.params.followText "set-order"=true\/(d.led=true/\d.plain=true))->h'.get? S=some {o with data:=.set (insertAt es p (Aw knd k,Value.ref b)) (ep+1) d}->AR S s.heap h'->
    wpAny (model prog w) A (if(!false&&d.tooFull)=true then(setRelay S (SetTable.grown (es.size+1)) >>= fun _=>pure true) else pure true) Q E {s with heap:=h'}:=fun d h' T2 m2 nY hg g=>by
   have T2':Tb d ((insertAt es p (Aw knd k,Value.ref b)).map (·.1)):=by rw[L];exact T2
   have fl:d.fill=es.size+1:=by
    unfold SetTable.fill;rw[T2'.dum,T2'.size,Array.size_map,F]
    rfl
   have tf:d.tooFull=decide ((es.size+1)*5 ≥ t.mask*3):=by unfold SetTable.tooFull;rw[fl,m2]
   have lk:es.size+1=(ks++[k]).length:=by rw[Aq,I];rfl
   have stay:((es.size+1)*5<t.mask*3)->((d.mask=7/\es.size+1<=4)\/(d.mask=31/\es.size+1<=18)\/(d.mask=127/\es.size+1<=76)\/(d.mask=15/\es.size+1<=8)\/(d.mask=63/\es.size+1<=37)\/(d.mask=255/\es.size+1<=152))->wpAny (model prog w) A (if(!false&&d.tooFull)=true then(setRelay S (SetTable.grown (es.size+1)) >>= fun _=>pure true) else pure true) Q E {s with heap:=h'}:=fun q mk=>by
    rw[tf,decide_eq_false ω];simp only[AW,An,if_false];refine Ac (h true h' {o with data:=.set (insertAt es p (Aw knd k,Value.ref b)) (ep+1) d} (insertAt es p (Aw knd k,Value.ref b)) (ep+1) d ?_ g);rw[if_neg gd];exact⟨hg,X.ex,rfl,T2',by rw[F];exact lk,iV,M h' g,N h' g,by rw[F];exact mk,O,nY⟩
   have f:∀l n,es.size+1=n->((es.size+1)*5 ≥ t.mask*3)->SetTable.sizeAbove (SetTable.grown n)-1=l->SetTable.sizeAbove (SetTable.grown n)<=1000->eE l->l%2=1->es.size+1<=l->((l=7/\es.size+1<=4)\/(l=31/\es.size+1<=18)\/(l=127/\es.size+1<=76)\/(l=15/\es.size+1<=8)\/(l=63/\es.size+1<=37)\/(l=255/\es.size+1<=152))->
     wpAny (model prog w) A (if(!false&&d.tooFull)=true then(setRelay S (SetTable.grown (es.size+1)) >>= fun _=>pure true) else pure true) Q E {s with heap:=h'}:=fun l n en q w1 w2 c1 c2 c3 mk=>by
    rw[tf,decide_eq_true q];simp only[Bool.not_false,Bool.and_self,if_true];subst en;refine Aa (Bv (s:={s with heap:=h'}) (ks:=ks++[k]) hg X.ex rfl T2' (by rw[F];exact lk) iV O (M h' g) (N h' g) w1 (by rw[sizeLine_eq];omega) c1 c2 (by rw[F];exact c3) (by rw[F];omega) (by rw[F];exact mk) nY fun eP jV eW fu jR rA kT=>?_);refine Ac (h true eP jV eW fu jR ?_ (g.trans kT));rw[if_neg gd];exact rA
   rcases X.msk with ⟨a,c⟩|⟨a,c⟩|⟨a,c⟩|⟨a,c⟩|⟨a,c⟩|⟨a,c⟩
   ·by_cases q:es.size+1<=4
    ·exact stay ω (.inl ⟨ω,q⟩)
    ·exact f 31 5 ω ω δ δ iK rfl ω (.inr (.inl ⟨rfl,ω⟩))
   ·by_cases q:es.size+1<=18
    ·exact stay ω (.inr (.inl ⟨ω,q⟩))
    ·exact f 127 19 ω ω δ δ gk rfl ω (.inr (.inr (.inl ⟨rfl,ω⟩)))
   ·exact stay ω (.inr (.inr (.inl ⟨ω,ω⟩)))
   ·by_cases q:es.size+1<=8
    ·exact stay ω (.inr (.inr (.inr (.inl ⟨ω,q⟩))))
    ·exact f 63 9 ω ω δ δ iL rfl ω (.inr (.inr (.inr (.inr (.inl ⟨rfl,ω⟩)))))
   ·by_cases q:es.size+1<=37
    ·exact stay ω (.inr (.inr (.inr (.inr (.inl ⟨ω,q⟩)))))
    ·exact f 255 38 ω ω δ δ jk rfl ω (.inr (.inr (.inr (.inr (.inr ⟨rfl,ω⟩)))))
   ·exact stay ω (.inr (.inr (.inr (.inr (.inr ⟨ω,ω⟩)))))
  have P:w.params.followText "set-order"=true\/(j.led=true/\j.plain=true):=by
   have e1:j=(t.put (pos t.mask (Aw knd k) ne)).1:=by rw[jj]
   have e2:j.led=t.led:=by rw[e1];rfl
   have e3:j.plain=t.plain:=by rw[e1];rfl
   rw[e2,e3];exact X.wk
  cases hpl:j.plain with
  |true=>
   simp only[if_true];refine Aa (Gw (s:=s) hv hk ?_);simp only[if_true];refine Aa (Bd (J j p3 p2) (fun _ s' G=>?_) fun _ _ e=>e);obtain⟨h',rfl,g1,g2⟩:=G;exact C j h' p3 p2 P g1 g2
  |false=>
   simp only[An,if_false];refine Aa (Ac ?_);simp only[if_true];refine Aa (Bd (J j p3 p2) (fun _ s' G=>?_) fun _ _ e=>e);obtain⟨h',rfl,g1,g2⟩:=G;exact C j h' p3 p2 P g1 g2
 ·have:t.mask<=255:=by rcases X.msk with ⟨a,_⟩|⟨a,_⟩|⟨a,_⟩|⟨a,_⟩|⟨a,_⟩|⟨a,_⟩<;>omega
  unfold turns at H;omega
def Gx{B:List Addr}{S:Addr}{o:Obj}{es:Array (Int×Value)}{ep:Nat}{t:SetTable}{ks:List (List K)}(X:TS knd s.heap S o es ep t ks B)(hu:A.units<cLine)(a:∀k v n,knd.is k v=true->hashByValue n v=pure true){k:List K}{b:Addr}(hk:AH knd s.heap k b)(c:b∈B)(d:ks.length<60){Q:Bool->Shared->Prop}(h:∀(r:Bool) h' o' bB cf t',TS knd h' S o' bB cf t' (if k∈ks then ks else ks++[k]) B->AR S s.heap h'->Q r {s with heap:=h',toks:=s.toks+(k.length+1)}):wpAny (model prog w) A (setAdd S (.ref b)) Q E s:=by
 unfold setAdd;exact AU (Aa (wpAny_pyHash_tuple hu hk (wh (s:={s with toks:=s.toks+(k.length+1)}) X hu a hk c d h)))
end
end STb
end
section
namespace STb
def dd{a:Type}[DecidableEq a](l:List a):List a:=l.foldl (fun acc x=>if x∈acc then acc else acc++[x]) []
def iq{a:Type}[DecidableEq a](l:List a)(x:a):dd (l++[x])=if x∈dd l then dd l else dd l++[x]:=by unfold dd;rw[List.foldl_append];rfl
def gl{a:Type}[DecidableEq a](l:List a):(dd l).length<=l.length:=by
 have:∀(l acc:List a),(l.foldl (fun acc x=>if x∈acc then acc else acc++[x]) acc).length<=acc.length+l.length:=by
  intro l
  induction l with
  |nil=>intro acc;simp
  |cons x l ih=>
   intro acc;rw[List.foldl_cons];refine AA (ih _) ?_;split
   ·rw[Ap];omega
   ·rw[Aq,Ap,Ap,List.length_nil];omega
 simpa[dd] using this l []
def jn{a:Type}[DecidableEq a](l:List a)(x:a):x∈dd l↔x∈l:=by
 have:∀(l acc:List a),x∈(l.foldl (fun acc x=>if x∈acc then acc else acc++[x]) acc)↔x∈acc\/x∈l:=by
  intro l
  induction l with
  |nil=>intro acc;simp
  |cons y l ih=>
   intro acc;rw[List.foldl_cons,ih]
   by_cases h:y∈acc
   ·rw[if_pos h,List.mem_cons]
    constructor
    ·rintro(q|q)
     ·exact .inl q
     ·exact .inr (.inr q)
    ·rintro(q|q|q)
     ·exact .inl q
     ·subst q;exact .inl h
     ·exact .inr q
   ·rw[if_neg h,List.mem_append,List.mem_singleton,List.mem_cons]
    constructor
    ·rintro((q|q)|q)
     ·exact .inl q
     ·exact .inr (.inl q)
     ·exact .inr (.inr q)
    ·rintro(q|q|q)
     ·exact .inl (.inl q)
     ·exact .inl (.inr q)
     ·exact .inr q
 simpa[dd] using this l []
def oE{c:Type}[DecidableEq c](l:List c):(dd l).Nodup:=by
 have:∀(l acc:List c),acc.Nodup->(l.foldl (fun acc x=>if x∈acc then acc else acc++[x]) acc).Nodup:=by
  intro l
  induction l with
  |nil=>intro acc h;exact h
  |cons y l ih=>
   intro acc h;rw[List.foldl_cons]
   by_cases q:y∈acc
   ·rw[if_pos q];exact ih acc h
   ·rw[if_neg q]
    refine ih _ ?_;rw[List.nodup_append];refine⟨h,by simp,fun a d b hb e=>?_⟩;rw[List.mem_singleton] at hb;subst hb;subst e;exact q d
 exact this l [] List.nodup_nil
def Gy{a:Type}[DecidableEq a](l m:List a):(dd (l++m)).length<=(dd l).length+m.length:=by
 have:∀(m acc:List a),(m.foldl (fun acc x=>if x∈acc then acc else acc++[x]) acc).length<=acc.length+m.length:=by
  intro m
  induction m with
  |nil=>intro acc;simp
  |cons x l ih=>
   intro acc;rw[List.foldl_cons];refine AA (ih _) ?_;split
   ·rw[Ap];omega
   ·rw[Aq,Ap,Ap,List.length_nil];omega
 unfold dd;rw[List.foldl_append];exact this m _
def Gz{a:Type}[DecidableEq a](l:List a)(h:∀(k:Nat) x,l[k]?=some x->x∉l.take k):dd l=l:=by
 have:∀k,k<=l.length->dd (l.take k)=l.take k:=by
  intro k
  induction k with
  |zero=>intro _;rfl
  |succ k ih=>
   intro hk;have hx:l[k]?=some l[k]:=Af ω;rw[List.take_add_one,hx];show dd (l.take k++[l[k]])=_;rw[iq,ih ω,if_neg (h k _ hx)]
   rfl
 have q:=this l.length (Ag _);rw[AD (Ag _)] at q;exact q
def GA{a:Type}[DecidableEq a](l:List a){k:Nat}{x:a}(h:l[k]?=some x)(hx:x∈l.take k):(dd l).length<l.length:=by
 have hk:k<l.length:=(List.getElem?_eq_some_iff.mp h).1;have e:l=(l.take k++[x])++l.drop (k+1):=by
  have:=List.take_append_drop (k+1) l;rw[List.take_add_one,h] at this;exact this.symm
 have h1:=Gy (l.take k++[x]) (l.drop (k+1));rw[<-e,iq,if_pos ((jn _ _).mpr hx)] at h1;have h2:=gl (l.take k);rw[AV] at h2;rw[List.length_drop] at h1;omega
def GB{a:Type}[DecidableEq a](l:List a):(dd l).length<l.length↔∃(k:Nat)(x:a),l[k]?=some x/\x∈l.take k:=by
 constructor
 ·intro h
  apply Classical.byContradiction;intro n;have:=Gz l fun k x e hx=>n ⟨k,x,e,hx⟩;rw[this] at h;exact Nat.lt_irrefl _ h
 ·rintro⟨k,x,e,hx⟩
  exact GA l e hx
end STb
end
section
set_option maxHeartbeats 3200000
namespace STb
open PySem PySem.SetTable PyProof.Rows
section
variable{prog:Program}{w:World}{K:Type}[DecidableEq K]{knd:KeyKind prog w K}{A:Around}{R:Result->Shared->Prop}{I:Addr}{fp wr:List Addr}{G:Array GenState->Array GenState->Prop}{n:Nat}{P:Nat->Value->Prop}{St:Nat->Shared->Prop}
def TS.moved{B:List Addr}{h h':Heap}{S:Addr}{o:Obj}{es:Array (Int×Value)}{ep:Nat}{t:SetTable}{ks:List (List K)}(X:TS knd h S o es ep t ks B)(a:h'.get? S=some o)(hk:∀k b,AH knd h k b->AH knd h' k b):TS knd h' S o es ep t ks B:=
 ⟨a,X.ex,X.dt,X.tb,X.sz,X.nd,fun e he=>let ⟨k,b,a1,a2,a3⟩:=X.el e he;⟨k,b,a1,a2,hk k b a3⟩,fun k hk'=>let ⟨b,a1,a2⟩:=X.ke k hk';⟨b,a1,hk k b a2⟩,X.msk,X.ad,X.wk⟩
def jo{h h':Heap}{k:List K}{b:Addr}(hk:AH knd h k b)(e:∀o,h.get? b=some o->h'.get? b=some o):AH knd h' k b:=by
 obtain⟨o,a,n,c,r⟩:=hk;exact⟨o,a,n,e o c,r⟩
def GC{B:List Addr}(W:WalksS prog w A.in1 I fp wr G n P St)(hu:A.in1.units<cLine)(hv:∀k v n,knd.is k v=true->hashByValue n v=pure true)(S:Addr)(l:S∉fp)(vals:List (List K))(adr:Nat->Addr)(hn:vals.length=n)(hB:∀i,i<n->adr i∈B)(hz:n<=59)(lS:∀i v,P i v->v=.ref (adr i))(hna:∀b o,(∃p m,o.cls=Value.type "tuple"/\o.data=.seq p m)->∀s i,St i s->s.heap.get? b=some o->b∉wr):∀(k i:Nat)(s:Shared),n-i=k->i<=n->St i s->(∃o es ep t,TS knd s.heap S o es ep t (dd (vals.take i)) B)->(∀(j:Nat)(x:List K),vals[j]?=some x->AH knd s.heap x (adr j))->
   (∀s',Moved (S::wr) G s s'->(∃o es ep t,TS knd s'.heap S o es ep t (dd vals) B)->R (.ok (.ret .none)) s')->codeAny (model prog w) A (.builtin "set.update.loop" ⟨[.ref S,.ref I],[]⟩) R s:=by
 have f:S∉wr:=fun h=>l (W.sub _ h);have M:∀b∈wr,b∈S::wr:=fun b hb=>Av _ hb;have u:∀{i:Nat}{s s':Shared}{x:List K}{b:Addr},St i s->Moved wr G s s'->AH knd s.heap x b->AH knd s'.heap x b:=fun{i s s' x b} a hm hk=>by
  obtain⟨o,p,m,L,hc,hd,hi⟩:=id hk;exact⟨o,p,m,hm.heap b o (hna b o ⟨p,m,hc,hd⟩ s i a L) L,hc,hd,hi⟩
 intro k
 induction k with
 |zero=>
  intro i s hk hi a z C hR;have E:i=n:=ω
  subst E;refine codeAny_builtin F.entry_set_update_loop ?_;rw[Around.under_plainId F.plain_set_update_loop _];show wpAny _ A.in1 (pyNext (.ref I) >>= _) _ _ s;refine Aa (W.done s _ _ a fun s' hm=>?_);show wpAny _ A.in1 (ret Value.none) _ _ s';refine Ac (hR s' (hm.mono M) ?_);obtain⟨o,es,ep,t,X⟩:=z;rw[AD ω] at X;exact⟨o,es,ep,t,X.moved (hm.heap S _ f X.at_) fun k b hk=>u a hm hk⟩
 |succ k ih=>
  intro i s hk hi a z C hR;have c:i<n:=ω
  refine codeAny_builtin F.entry_set_update_loop ?_;rw[Around.under_plainId F.plain_set_update_loop _];show wpAny _ A.in1 (pyNext (.ref I) >>= _) _ _ s;refine Aa (W.item i s _ _ c a fun v s' O Q hm=>?_);obtain rfl:=lS i v O;obtain⟨o,es,ep,t,X⟩:=z;have X':TS knd s'.heap S o es ep t (dd (vals.take i)) B:=X.moved (hm.heap S _ f X.at_) fun k b hk=>u a hm hk;have hx:vals[i]?=some vals[i]:=Af ω;have g:=gl (vals.take i);rw[AV] at g;show wpAny _ A.in1 (holding [Value.ref (adr i)] (setAdd S (.ref (adr i))) >>= _) _ _ s';refine Aa (AU (Gx X' hu hv (u a hm (C i _ hx)) (hB i c) ω fun r h' o' H J t' y D=>?_));have N:s'.toks<=s'.toks+(vals[i].length+1):=Nat.le_add_right _ _;have c7:St (i+1) {s' with heap:=h',toks:=s'.toks+(vals[i].length+1)}:=W.frame _ s' _ _ Q N fun b hb T e=>by
   rw[D.2 b (fun h:b=S=>l (by rw[<-h];exact hb))];exact e
  have d:vals.take (i+1)=vals.take i++[vals[i]]:=by rw[List.take_add_one,hx];rfl
  have X3:TS knd h' S o' H J t' (dd (vals.take (i+1))) B:=by
   rw[d,iq]
   by_cases q:vals[i]∈dd (vals.take i)
   ·rw[if_pos q] at y ⊢;exact y
   ·rw[if_neg q] at y ⊢;exact y
  refine Ac ⟨plainId_quiet F.plain_set_update_loop _,ih (i+1) _ ω c c7 ⟨o',H,J,t',X3⟩ (fun j x U=>il (u a hm (C j x U)) X'.at_ X'.dt D) fun Y Z kx=>?_⟩;refine hR Y (Moved.trans W.gtrans ((hm.mono M).then_heap N fun b T hb e=>?_) Z) kx;rw[D.2 b (fun h:b=S=>hb (by rw[h];exact Am))];exact e
end
end STb
end
section
namespace STb
open PySem PySem.SetTable PyProof.Rows
section
variable{prog:Program}{w:World}{K:Type}[DecidableEq K]{knd:KeyKind prog w K}{A:Around}{E:Ω}{s:Shared}
def Bw(a:Value){Q₁:Ω}(h:Q₁ (.ref s⁻¹) {s with heap:=s.heap.push {cls:=.type "set",dict:=none,data:=.set #[] 0 (.fresh 0 0 (!w.params.followText "set-order"))}}):codeAny (model prog w) A (.call (.builtin "set.__new__") ⟨[.type "set",a],[]⟩) (wants Q₁ E) s:=by
 refine codeAny_of_tree (show wpAny _ A.in1 (do checkBuiltinCall "set.__new__" ⟨[.type "set",a],[]⟩;again (.builtin "set.__new__" ⟨[.type "set",a],[]⟩)) _ _ s from Aa (wpAny_of_eq (F.newCall_set_1 a) (Ac ⟨plainId_quiet F.plain_set_new _,codeAny_builtin F.entry_set_new ?_⟩)));rw[Around.under_plainId F.plain_set_new _];unfold Builtin.«set.__new__» Builtin.Frozenset.newClass;have b:=sub_set_self;obtain⟨hp,g,d,tk,os⟩:=s;dsimp only;wp_walk;refine wpAny_askSetting (Ac ?_);dsimp only;simp only[newObj];exact Aa (wpAny_alloc (Ac (Ac h)))
def Bx{B:List Addr}{l:Addr}{a:Array Value}{vals:List (List K)}{adr:Nat->Addr}{Q:Ω}(hh:A.handled=none)(hl:s.heap.IsList l a)(hu:A.units+64<cLine)(hv:∀k v n,knd.is k v=true->hashByValue n v=pure true)(hz:a.size<=59)(hn:vals.length=a.size)(hB:∀i,i<a.size->adr i∈B)(aG:∀(i:Nat) v,a[i]?=some v->v=.ref (adr i))(hT:∀(j:Nat) x,vals[j]?=some x->AH knd s.heap x (adr j))(h:∀h' tk,(∃o es ep t,TS knd h' s⁻¹ o es ep t (dd vals) B)->(∀b o,b<s⁻¹->s.heap.get? b=some o->h'.get? b=some o)->Q (.ref s⁻¹) {s with heap:=h',toks:=tk}):wpAny (model prog w) A (call (.type "set") [.ref l]) Q E s:=by
 obtain⟨c,tl,mF⟩:=F.called_set.mro;have iN:=F.called_set.made;have br:=F.called_set.sub;refine wpAny_call (codeAny_of_tree ?_);show wpAny _ _ (callAny (.type "set") _) _ _ _;refine Ac ⟨Code.quiet_builtin _ δ,codeAny_builtin F.entry_type_call ?_⟩;rw[Around.under_plain (weight_type_call_type "set" [.ref l] []) rfl];have h1:=F.called_set.notType;have h2:=F.called_set.canCreate;have qh:=F.typeCall_set_1 (.ref l)
 repeat(any_goals(first|assumption|wp_step))
 refine codeAny_mono (Bw (.ref l) (E:=E) (Q₁:=fun obj D=>∃led:Bool,(w.params.followText "set-order"=true\/led=true)/\obj=.ref s⁻¹/\D={s with heap:=s.heap.push {cls:=.type "set",dict:=none,data:=.set #[] 0 (.fresh 0 0 led)}}) ⟨_,by cases w.params.followText "set-order" <;> simp,rfl,rfl⟩) fun r D hr=>?_;cases r with
 |error e=>exact hr
 |ok fl=>
  cases fl with
  |ret obj=>
   obtain⟨led,P,rfl,rfl⟩:=hr;have L:(s.heap.push {cls:=.type "set",dict:=none,data:=.set #[] 0 (.fresh 0 0 led)}).get? s⁻¹=some {cls:=.type "set",dict:=none,data:=.set #[] 0 (.fresh 0 0 led)}:=Ax _ rfl;have Y:Shared.TypeIs {s with heap:=s.heap.push {cls:=.type "set",dict:=none,data:=.set #[] 0 (.fresh 0 0 led)}} (.ref s⁻¹) "set":=⟨_,L,rfl⟩;have ss:=F.called_set.init.lookup;have ui:=F.called_set.init.bind (.ref s⁻¹)
   repeat(any_goals(first|assumption|wp_step))
   refine codeAny_mono (codeAny_call_builtin (R:=wants (fun r G=>r=.none/\∃h' tk,G={s with heap:=h',toks:=tk}/\
     (∃o es ep t,TS knd h' s⁻¹ o es ep t (dd vals) B)/\
     (∀b o,b<s⁻¹->s.heap.get? b=some o->h'.get? b=some o)) E) F.called_set.init.plain F.entry_set_init (check_set_init_1 Y ?_)) fun N G u=>?_
   ·obtain⟨S,H,d,I,J⟩:=hl
    obtain⟨r_,T,ni,U⟩:=S;simp only at d J;subst d;subst J;have Z:(s.heap.push {cls:=.type "set",dict:=none,data:=.set #[] 0 (.fresh 0 0 led)}).get? l=some {cls:=.type "list",dict:=T,data:=.seq a I,slots:=U}:=Ad _ H;have re:=F.sub_list_set;have uB:=F.sub_list_frozenset;have hne:(Value.type "list" == Value.type "dict")=false:=ξ
    have f:(s.heap.push {cls:=.type "set",dict:=none,data:=.set #[] 0 (.fresh 0 0 led)}).IsList l a:=⟨_,Z,rfl,I,rfl⟩;unfold Builtin.«set.__init__» noKeywords Builtin.Frozenset.updateFrom;generalize hPI:pyIter=PI
    wp_walk
    subst hPI;refine wpAny_pyIter_list f ?_;refine Aa (wpAny_runValue ?_);have M:l<s⁻¹:=Ah H;have qu:A.in1.in1.in1.handled=none:=by simp[hh]
    have g:l≠(s.heap.push {cls:=.type "set",dict:=none,data:=.set #[] 0 (.fresh 0 0 led)}).objs.size:=by
     rw[Heap.size_push];exact Ar (Bc M)
    have C:s⁻¹∉[(s.heap.push {cls:=.type "set",dict:=none,data:=.set #[] 0 (.fresh 0 0 led)}).objs.size,l]:=by
     rw[Heap.size_push];simp only[List.mem_cons,List.mem_singleton,List.not_mem_nil,or_false,not_or];exact⟨Ar (Nat.lt_succ_self _),Nat.ne_of_gt M⟩
    refine GC (knd:=knd) ((Walks.list qu _ l g a).toS) (by show A.units+1+1+1<cLine;omega) hv s⁻¹ C vals adr hn hB hz (fun i v q=>aG i v q) (fun b o O s' i st e hb=>?hna)
     (a.size-0) 0 _ ω (AT _) ⟨⟨_,Ax _ rfl,rfl,rfl⟩,(f.push _)⟩ ⟨{cls:=.type "set",dict:=none,data:=.set #[] 0 (.fresh 0 0 led)},#[],0,.fresh 0 0 led,?hS0⟩ (fun j x hx=>jo (hT j x hx) fun o e=>Ad _ (Ad _ e)) ?hR
    case hna=>
     obtain⟨⟨oi,e1,e2,_⟩,_⟩:=st;obtain⟨ag,m,hc,_⟩:=O;simp only[List.mem_singleton] at hb;subst hb;have e3:=Ai (e1.symm.trans e);rw[<-e3,e2] at hc;exact absurd hc ξ
    case hS0=>
     have p:((s.heap.push {cls:=.type "set",dict:=none,data:=.set #[] 0 (.fresh 0 0 led)}).push {cls:=.type "list_iterator",data:=.fields #[.ref l,.int 0 0]}).get? s⁻¹
      =some {cls:=.type "set",dict:=none,data:=.set #[] 0 (.fresh 0 0 led)}:=Ad _ L
     exact⟨p,⟨rfl,rfl,rfl⟩,rfl,(by simpa using v' 0 0 led),rfl,List.nodup_nil,fun e he=>by simp at he,fun k hk=>by simp[dd] at hk,.inl ⟨rfl,AT _⟩,(fun e he=>by simp at he),P.imp id fun z=>⟨z,rfl⟩⟩
    case hR=>
     intro s' hm y;obtain⟨h',g',d',W,X⟩:=s';have eg:g'=s.gens:=hm.gens;have ed:d'=s.drawn:=hm.drawn;have eo:X=s.os:=hm.os;subst eg;subst ed;subst eo;show wpAny _ _ _ _ _ _;refine Ac ?_;show wpAny _ _ (ret Value.none) _ _ _;refine Ac ⟨rfl,h',W,rfl,y,fun b o hb e=>?_⟩;have c5:b≠s⁻¹:=Ar hb;have bz:b≠(s.heap.push {cls:=.type "set",dict:=none,data:=.set #[] 0 (.fresh 0 0 led)}).objs.size:=by
      rw[Heap.size_push];exact Ar (Bc hb)
     exact hm.heap b o (by simp only[List.mem_cons,List.mem_singleton,List.not_mem_nil,or_false,not_or];exact⟨c5,bz⟩) (Ad _ (Ad _ e))
   ·cases N with
    |error e=>exact u
    |ok fl₂=>
     cases fl₂ with
     |ret r=>
      obtain⟨rfl,h',tk,rfl,y,hk'⟩:=u
      repeat(any_goals(first|assumption|wp_step))
      exact h _ _ y hk'
     |_=>exact u.elim
  |_=>exact hr.elim
end
end STb
namespace L2
open PySem PySem.Spec PyProof.Rows
def gB(D:Addr)(n:Nat):HO:=.ext fun h=>∃o es ep t,h.get? D=some o/\o.ExactSet/\o.data=.set es ep t/\t.fits es.size=true/\es.size=n/\n<=100
section
variable{X:Cx}
def oG{prog:Program}{w:World}:∀(k:Int)(v:Value)(n:Nat),(intKind prog w).is k v=true->hashByValue n v=pure true:=by
 intro k v n h;obtain⟨t,rfl⟩:=Value.isInt_shape h;cases n<;>rfl
def wn{prog:Program}{w:World}{h:Heap}{c:Addr}{cs:List Value}{a:List Int}(hc:IsTup h c cs.toArray)(hi:IntsAre cs a):AH (intKind prog w) h a c:=by
 obtain⟨o,e,b,k,d⟩:=hc;refine⟨o,cs.toArray,k,e,b,d,?_⟩;have:∀{cs:List Value}{a:List Int},IntsAre cs a->ItemsAre (intKind prog w) a cs:=by
  intro cs a hi
  induction hi with
  |nil=>exact .nil
  |cons n t h ih=>exact .cons (by show Value.isInt n (.int n t)=true;simp[Value.isInt]) ih
 simpa using this hi
def GD(hc:X.calm=true)(hu:X.A.units+64<cLine):cE X (.type "set") (fun xs H Q=>∃(l:Addr)(as:List Addr)(c:Ξ),xs=[.ref l]/\SqL X.K H l (as.map V.ref)/\Tps H as c/\c.length<=59/\
  ∀D,H D=none->Q (.ref D) (upd H D (gB D (STb.dd c).length))):=by
 intro aa s σ H xs us Q I r h;obtain⟨l,as,c,rfl,hq,hp,N,q⟩:=h;obtain⟨u,rfl,E⟩:=vals1 r;cases E;obtain⟨F,G,p1,_⟩:=I.list hq;obtain rfl:=a_ G;have L:=hp.length;refine STb.Bx (B:=as) (knd:=intKind X.prog X.w) (vals:=c) (adr:=fun i=>as.getD i 0) (I.ok.hd hc) p1.isList hu oG (by rw[Aj,Ab];omega) (by rw[Aj,Ab];omega) (fun i hi=>by rw[Aj,Ab] at hi;rw[AQ,Af hi];exact List.getElem_mem hi)
  (fun i v e=>?_) (fun j x e=>?_) fun h' tk ⟨o,es,ep,t,T⟩ p=>?_
 ·have f:(as.map Value.ref)[i]?=some v:=by simpa using e
  rw[Ao] at f;cases d:as[i]? with
  |none=>rw[d] at f;simp at f
  |some a=>
   rw[d] at f;rw[<-Ai f,AQ,d]
   rfl
 ·have M:j<as.length:=by rw[L];exact(List.getElem?_eq_some_iff.mp e).1
  have d:as[j]?=some as[j]:=Af M;obtain⟨O,e1,e2⟩:=hp.get d;rw[e] at e1;obtain rfl:=Ai e1;obtain⟨F,J,p2,_⟩:=I.tuple (SqT.of (K:=X.K) e2);rw[AQ,d];exact wn p2 (intsAre_of J)
 ·have g:=STb.gl c
  refine⟨.ref s⁻¹,_,I.laid (o:=gB s⁻¹ (STb.dd c).length) (fun b u e=>p b u (Ah e) e) (Ag _) ?_,rfl,q _ (I.hok.fresh (Ag _))⟩;refine⟨⟨o,es,ep,t,T.at_,T.ex,T.dt,STb.fits_of T.tb,T.sz,ω⟩,⟨o,T.at_⟩,fun h1 h2 ⟨o',y,z,t',g1,g2⟩ C=>⟨o',y,z,t',C _ g1,g2⟩⟩
def GE:cE X (.builtin "len") (fun xs H Q=>∃D n,xs=[.ref D]/\H D=some (gB D n)/\Q (.int n) H):=by
 intro aa s σ H xs us Q I r h;obtain⟨D,n,rfl,hq,q⟩:=h;obtain⟨u,rfl,a⟩:=vals1 r;cases a;obtain⟨⟨o,es,ep,t,h1,h2,b,h4,c,d⟩,_⟩:=(show zA X.prog X.w H s.heap D (gB D n) from I.hok D _ hq);exact call_len_set h1 h2 b h4 ω ⟨.int n,H,I.tok _,⟨_,by rw[c]⟩,q⟩
end
end L2
end
section
namespace Spl
open PySem PySem.Spec PySem.Builtin PySem.Builtin.Str PyProof.Rows
section
variable{prog:Program}{w:World}{A:Around}{E:Ω}{s:Shared}{x y:PySem.Str}{t u:Tok}{Q:Ω}
def split1(hy:(y.length==0)=false)(h:∀(l:List (PySem.Str×Tok)) k,l.map (·.1)=Al x y->Q (.ref s⁻¹) {s with heap:=s.heap.push {cls:=.type "list",data:=.seq (strValues l).toArray},toks:=k})(hsz:x.length+2<=sizeLine):wpAny (model prog w) A (call (.builtin "str.split") [.str x t,.str y u]) Q E s:=by
 have a:(partsBetween x (occurrences x y 0 x.length (x.length+1)) y.length).length<=sizeLine:=by
  have e1:=StrLaws.occ_length_le x y 0 x.length (x.length+1);rw[length_partsBetween];omega
 cases h1:(decide (x.length<y.length)|| decide (strKind x<strKind y))
 ·cases hf:(occurrences x y 0 x.length (x.length+1)).isEmpty
  ·refine call_meets F.slot_str_split (typeIs_str _ _ _) F.entry_str_split (F.args_str_split_2 _ _) (meets_str_split_sep x y t u h1 hy hf ω a) ?_
   show wants Q E _ {s with toks:=_,heap:=s.heap.push {cls:=.type "list",data:=.seq (strsFrom s.toks (partsBetween x (occurrences x y 0 x.length (x.length+1)) y.length)).toArray}};rw[strsFrom_eq];exact h (numbered s.toks _) _ ((numbered_texts _ _).trans ((if_neg (ne_true_of_eq_false h1)).trans (if_neg (ne_true_of_eq_false hf))).symm)
  ·exact call_meets F.slot_str_split (typeIs_str _ _ _) F.entry_str_split (F.args_str_split_2 _ _) (meets_str_split_not_found x y t u h1 hy hf)
    (h [(x,t)] s.toks ((if_neg (ne_true_of_eq_false h1)).trans (if_pos hf)).symm)
 ·exact call_meets F.slot_str_split (typeIs_str _ _ _) F.entry_str_split (F.args_str_split_2 _ _) (meets_str_split_cannot_occur x y t u h1)
   (h [(x,t)] s.toks (if_pos h1).symm)
end
end Spl
namespace L2
open PySem PySem.Spec PyProof.Rows
section
variable{X:Cx}
def Bz:∀(l:List (PySem.Str×Tok)),Vals ((l.map (·.1)).map V.str) (strValues l)
 |[]=>.nil
 |p::l=>.cons ⟨p.2,rfl⟩ (Bz l)
def znd:V->List V->Hp->VK->Prop:=fun x vs H Q=>∃z y,x=.str z/\vs=[.str y]/\(y.length==0)=false/\z.length+2<=sizeLine/\(Al z y).length<=sizeLine/\∀D,H D=none->Q (.ref D) (upd H D (.lst ((Al z y).map V.str)))
def jq:hX X "str.split" znd:=by
 intro aa s σ H x vs v us Q I a c h;obtain⟨z,y,rfl,rfl,hy,d,f,q⟩:=h;obtain⟨t,rfl⟩:=a;obtain⟨u,rfl,g⟩:=c.one;obtain⟨t',rfl⟩:=g;refine Spl.split1 hy (fun l k e=>?_) d;refine⟨.ref s⁻¹,_,I.laid (t':=k) (o:=.lst ((Al z y).map V.str)) (fun b ob q=>Ad _ q) (Ag _) ?_,rfl,q _ (I.hok.fresh (Ag _))⟩;refine⟨by rw[Ab];exact f,strValues l,0,?_,Ax _ rfl⟩;rw[<-e];exact Bz l
def kj(x:PySem.Str):It:=⟨fun i _=>i<x.cps.size,fun i H v H'=>H'=H/\∃c,x.cps[i]?=some c/\v=.str ⟨#[c]⟩,fun i _=>i=x.cps.size⟩
def BB{P:Program}{w:World}{K:Ae}{tg:Expr}(x:PySem.Str)(it:Addr)(T:String)(q:["enumerate","zip","dict_itemiterator","dict_reverseitemiterator","odict_iterator","itertools.zip_longest","itertools.pairwise"].contains T=false)(t:Tok)(W:∀A':Around,A'.handled=none->Walks P w A' it [it] [it] x.cps.size (SignAt x) (fun i h=>h.IsStrIter it T x t i))(r:∀(A:Around)(i:Nat)(s:Shared)(Q:Ω)(E:Ω),s.heap.IsStrIter it T x t i->Q (.ref it) s->wpAny (model P w) A (pyIter (.ref it)) Q E s):Turn P w K tg (kj x) [it] it (fun i h=>h.IsStrIter it T x t i) where
 mem:=by simp
 obj:=fun i h st b hb=>by
  have e:b=it:=by simpa using hb
  subst e;obtain⟨o,e,c,d⟩:=st;exact⟨o,e,fun v z=>by rw[d] at z;cases z⟩
 keep:=fun i h h' st k=>by
  obtain⟨o,e,c⟩:=st;exact⟨o,k it (by simp) o e,c⟩
 item:=by
  intro X a hw f hc i aa s σ H E I hf st g;subst a hw f;obtain⟨f0,f1,f2,f3,f4,f5⟩:=hf it (by simp);refine(W X.A (I.ok.hd hc)).item i s _ _ g st fun v h' tk p l j=>?_;obtain⟨c,u,hx,rfl⟩:=p;have y:Inv X aa σ H {s with heap:=h',toks:=tk}:=I.turned (fun b o hb e=>j b o (by simpa using hb) e) f0 f1 f3 f4 f5;obtain⟨o,e1,e2,e3⟩:=id l;exact⟨_,rfl,lg (s:={s with heap:=h',toks:=tk}) e1 e2 e3 q ⟨.str ⟨#[c]⟩,H,y,⟨u,rfl⟩,⟨rfl,c,hx,rfl⟩,l,fun b hb=>(hf b hb).1⟩⟩
 done:=by
  intro X a hw f hc i aa s σ H E I hf st g;subst a hw f;obtain⟨f0,f1,f2,f3,f4,f5⟩:=hf it (by simp);have hi:i=x.cps.size:=g;subst hi;exact(W X.A (I.ok.hd hc)).done s _ _ st fun h' tk j=>⟨rfl,I.turned (fun b o hb e=>j b o (by simpa using hb) e) f0 f1 f3 f4 f5⟩
 self:=r
def wx(te:TE):TI:=fun σ H R=>te σ H fun v H1=>∃x,v=.str x/\R (kj x) H1
def oH{tg l:Expr}{tl:TE}(g:PE X l tl):PI X tg l (wx tl):=by
 intro aa s σ H R I h;refine aR (g aa s σ H _ I h) fun v a ⟨x,H1,I1,d,f⟩=>?_;obtain⟨z,e,q⟩:=f;subst e;obtain⟨t,rfl⟩:=d;have fin:∀(o:Obj),Inv X aa σ H1 {a with heap:=a.heap.push o}:=fun o=>I1.kept (t':=a.toks) fun b o e=>Ad _ e;have fp:∀b∈[a⁻¹],bF X aa H1 b:=fun b hb=>by
  have e:b=a⁻¹:=by simpa using hb
  subst e;exact I1.fpOk (Ag _) (I1.hok.fresh (Ag _))
 cases ha:z.cps.all (·<128)
 ·refine wpAny_pyIter_wide ha ?_
  exact⟨a⁻¹,[a⁻¹],_,_,H1,rfl,fin _,BB z _ "str_iterator" ξ t (fun j c=>Walks.strWide c _ z t) (fun A i s Q E st h=>wpAny_pyIter_striter_wide st h),⟨_,Ax _ rfl,rfl,rfl⟩,fp,q⟩
 ·refine wpAny_pyIter_ascii ha ?_
  exact⟨a⁻¹,[a⁻¹],_,_,H1,rfl,fin _,BB z _ "str_ascii_iterator" ξ t (fun j c=>Walks.strAscii c _ z t) (fun A i s Q E st h=>wpAny_pyIter_striter_ascii st h),⟨_,Ax _ rfl,rfl,rfl⟩,fp,q⟩
def wz{g:TG}{tc:TT}{te:TE}{σ:St}{H1:Hp}{Q:VK}{D:Addr}{x:PySem.Str}(a:Nat->St->List V->Hp->Prop)(h:a 0 σ [] (upd H1 D (.lst [])))(hs:∀i σ ys H c,x.cps[i]?=some c->i<x.cps.size->ys.length<=i->a i σ ys H->g (.str ⟨#[c]⟩) σ H fun d j=>tc d j fun b f=>if b=true then te d f (fm x.cps.size a D i d) else de x.cps.size a i d f)(hd:∀σ ys H,a x.cps.size σ ys H->Q (.ref D) H):cF (kj x) g tc te σ H1 D Q:=by
 refine lZ x.cps.size a h (fun σ ys H p=>rfl) (fun i σ ys H hi p=>hi) (fun i σ ys H v H' hi hy p y=>?_) hd;obtain⟨e,c,hc,rfl⟩:=y;subst e;exact hs i σ ys _ c hc hi hy p
end
end L2
end
section
namespace K1
open STb
def subs(ps:List Int):Ξ:=ps.foldl (fun a x=>a++a.map (·++[x])) [[]]
def parts(ps:List Int):Ξ:=(subs ps).drop 1
def wA(ps:List Int)(x:Int):subs (ps++[x])=subs ps++(subs ps).map (·++[x]):=by unfold subs;rw[List.foldl_append];rfl
def oI(ps:List Int):(subs ps).length=2 ^ ps.length:=by
 have:∀(ps:List Int)(acc:Ξ),(ps.foldl (fun a x=>a++a.map (·++[x])) acc).length=acc.length*2 ^ ps.length:=by
  intro ps
  induction ps with
  |nil=>intro acc;simp
  |cons x ps ih=>
   intro acc;rw[List.foldl_cons,ih,Aq,Ab,Ap,Nat.pow_succ];rw[<-Nat.two_mul,Nat.mul_comm 2,Nat.mul_assoc,Nat.mul_comm 2]
 simpa[subs] using this ps [[]]
def wB(ps:List Int):∃t,subs ps=[]::t/\∀q∈t,q≠[]:=by
 have:∀(ps:List Int)(acc:Ξ),(∃t,acc=[]::t/\∀q∈t,q≠[])->∃t,ps.foldl (fun a x=>a++a.map (·++[x])) acc=[]::t/\∀q∈t,q≠[]:=by
  intro ps
  induction ps with
  |nil=>intro acc h;exact h
  |cons x ps ih=>
   rintro acc ⟨t,rfl,h⟩;rw[List.foldl_cons];refine ih _ ⟨t++([]::t).map (·++[x]),rfl,fun q hq=>?_⟩;rcases List.mem_append.mp hq with hq|hq
   ·exact h q hq
   ·obtain⟨r,_,rfl⟩:=List.mem_map.mp hq
    simp
 exact this ps [[]] ⟨[],rfl,fun q hq=>nomatch hq⟩
def GF(ps:List Int):(subs ps).filter (fun q=>!decide (q=[]))=parts ps:=by
 obtain⟨t,e,h⟩:=wB ps;unfold parts;rw[e];show List.filter _ ([]::t)=t;rw[List.filter_cons,if_neg (by simp)];exact List.filter_eq_self.mpr fun q hq=>by simp[h q hq]
def kl(ps:List Int):(parts ps).length=2 ^ ps.length-1:=by unfold parts;rw[List.length_drop,oI]
def BC(ps:List Int):∀q∈subs ps,q.length<=ps.length:=by
 have:∀(ps:List Int)(acc:Ξ)(n:Nat),(∀q∈acc,q.length<=n)->∀q∈ps.foldl (fun a x=>a++a.map (·++[x])) acc,q.length<=n+ps.length:=by
  intro ps
  induction ps with
  |nil=>intro acc n h q hq;simpa using h q hq
  |cons x ps ih=>
   intro acc n h q hq;rw[List.foldl_cons] at hq;have:=ih _ (n+1) (fun r hr=>by
    rcases List.mem_append.mp hr with hr|hr
    ·exact Nat.le_succ_of_le (h r hr)
    ·obtain⟨u,hu,rfl⟩:=List.mem_map.mp hr
     rw[Aq];exact Nat.succ_le_succ (h u hu)) q hq
   rw[Ap];omega
 intro q hq;have:=this ps [[]] 0 (fun r hr=>by simp at hr;subst hr;exact Ag _) q hq;omega
def aY:List Int->Bool
 |a::b::r=>decide (a<b)&&aY (b::r)
 |_=>true
def BD:∀ps:List Int,((ps.zip (ps.drop 1)).map fun p=>decide (p.1<p.2)).all id=aY ps
 |[]=>rfl
 |[_]=>rfl
 |a::b::r=>by
  have:=BD (b::r);unfold aY;rw[<-this]
  rfl
def wC:∀ps:List Int,aY ps=true↔∀(i:Nat) a b,ps[i]?=some a->ps[i+1]?=some b->a<b
 |[]=>by simp[aY]
 |[x]=>by simp[aY]
 |x::y::r=>by
  unfold aY;rw[AB,decide_eq_true_eq,wC (y::r)];constructor
  ·rintro⟨h1,h2⟩ i a b c hb
   cases i with
   |zero=>simp at c hb;subst c hb;exact h1
   |succ i=>exact h2 i a b (by simpa using c) (by simpa using hb)
  ·intro h
   exact⟨h 0 x y rfl rfl,fun i a b c hb=>h (i+1) a b (by simpa using c) (by simpa using hb)⟩
def BE(ps:List Int)(h:aY ps=true):∀(d i:Nat) a b,ps[i]?=some a->ps[i+d]?=some b->a<=b:=by
 intro d
 induction d with
 |zero=>intro i a b c hb;rw[Nat.add_zero,c] at hb;cases hb;exact Int.le_refl _
 |succ d ih=>
  intro i a b c hb;have e:i+(d+1)<ps.length:=(List.getElem?_eq_some_iff.mp hb).1;have hc:ps[i+d]?=some ps[i+d]:=Af ω;have h1:=ih i a _ c hc;have h2:=(wC ps).mp h (i+d) _ b hc hb;omega
def zS(ps:List Int):Bool:=decide (1<=ps.length)&&decide (ps.length<=5)&&!(decide (ps.headD 0<0))&&!(decide (99<ps.getLastD 0))&&aY ps
def fJ(ps:List Int):Bool:=decide (1<=ps.length)&&decide (ps.length<=5)&&ps.all (fun p=>decide (0<=p)&&decide (p<=99))&&aY ps
def BF(ps:List Int):zS ps=fJ ps:=by
 unfold zS fJ;cases ps with
 |nil=>rfl
 |cons x r=>
  by_cases hr:aY (x::r)=true
  ·rw[hr,Bool.and_true,Bool.and_true]
   by_cases d:(x::r).length<=5
   ·have e1:(x::r).getLastD 0=(x::r)[(x::r).length-1]:=by
     rw[List.getLastD_eq_getLast?,List.getLast?_eq_getElem?,Af (by simp)];rfl
    have key:(!(decide ((x::r).headD 0<0))&&!(decide (99<(x::r).getLastD 0)))=(x::r).all (fun p=>decide (0<=p)&&decide (p<=99)):=by
     rw[Bool.eq_iff_iff];rw[AB,Bool.not_eq_true',Bool.not_eq_true',decide_eq_false_iff_not,decide_eq_false_iff_not,List.all_eq_true];constructor
     ·rintro⟨a,b⟩ p hp
      obtain⟨i,hi⟩:=List.mem_iff_getElem?.mp hp;have e:i<(x::r).length:=(List.getElem?_eq_some_iff.mp hi).1;have g1:=BE (x::r) hr i 0 x p rfl (by simpa using hi);have g2:=BE (x::r) hr ((x::r).length-1-i) i p ((x::r)[(x::r).length-1]) hi (by
       rw[show i+((x::r).length-1-i)=(x::r).length-1 from ω];exact Af (by simp))
      rw[e1] at b;have c:¬x<0:=a;simp only[AB,decide_eq_true_eq];constructor<;>omega
     ·intro h
      have g1:=h x Am;have g2:=h ((x::r)[(x::r).length-1]) (List.getElem_mem _);rw[e1];simp only[AB,decide_eq_true_eq] at g1 g2;constructor
      ·show ¬x<0;omega
      ·omega
    rw[<-key];simp only[Bool.and_assoc]
   ·rw[decide_eq_false d];simp
  ·have:aY (x::r)=false:=by simpa using hr
   rw[this,AW,AW]
def bS(a:Ξ):Bool:=decide (a.length<=20)&&a.all zS&&!(decide ((dd a).length<a.length))&&decide ((dd (a.flatMap parts)).length<=200)
def BG(a:Ξ)(k:Nat):Prop:=∀(i:Nat) ps,i<k->a[i]?=some ps->ps∉a.take i/\fJ ps=true
def GG(a:Ξ)(h:a.length<=20)(b:BG a a.length):bS a=decide ((dd (a.flatMap parts)).length<=200):=by
 unfold bS;have h1:a.all zS=true:=List.all_eq_true.mpr fun ps hp=>by
  obtain⟨i,hi⟩:=List.mem_iff_getElem?.mp hp;rw[BF];exact(b i ps (List.getElem?_eq_some_iff.mp hi).1 hi).2
 have h2:¬(dd a).length<a.length:=fun z=>by
  obtain⟨k,x,e,hx⟩:=(GB a).mp z;exact(b k x (List.getElem?_eq_some_iff.mp e).1 e).1 hx
 rw[decide_eq_true h,h1,decide_eq_false h2]
 rfl
def GH(a:Ξ)(h:¬a.length<=20):bS a=false:=by unfold bS;rw[decide_eq_false h];rfl
end K1
end
section
namespace L2
open PySem PySem.Spec PyProof.Rows
def ir(N N':List Str)(av:List (Option Nat))(scope:Scope):Bool:=decide (av.length=N'.length)&&(av.zip N').all fun p=>match p.1 with
 |none=>true
 |some j=>decide (N[j]?=some p.2)&&decide (scope.names.lookup p.2=some .free)
def BH{N N':List Str}{av:List (Option Nat)}{scope:Scope}(h:ir N N' av scope=true):lU N N' av scope:=by
 unfold ir at h;rw[AB,decide_eq_true_eq,List.all_eq_true] at h;refine⟨h.1,fun i j e=>?_⟩;have hi:i<av.length:=(List.getElem?_eq_some_iff.mp e).1;have e2:N'[i]?=some N'[i]:=Af (by rw[<-h.1];exact hi);have:=h.2 (some j,N'[i]) (List.mem_iff_getElem?.mpr ⟨i,by rw[bH.bM,e,e2];rfl⟩);simp only[AB,decide_eq_true_eq] at this;exact⟨N'[i],e2,this.1,this.2⟩
section
variable{X:Cx}{scope:Scope}{av:List (Option Nat)}{tg iter bP:Expr}{bq:List Expr}{wi:TI}{g:TG}{tc:TT}{te:TE}{pos:Pos}
def zw(N N':List Str)(av:List (Option Nat))(hi:PI X tg iter wi)(b:∀a C s₀ H₀ ex,PG (cxC X scope N' a C s₀ H₀ ex) tg g)(ht:∀a C s₀ H₀ ex,gR (cxC X scope N' a C s₀ H₀ ex) bq tc)(he:∀a C s₀ H₀ ex,PE (cxC X scope N' a C s₀ H₀ ex) bP te)(hc:X.calm=true:=by rfl)(hk:scope.kind=.function:=by rfl)(c:∀y∈scope.names,y.2≠.cell:=by decide +kernel)(d:∀y∈scope.names,y.2=.local->scope.names.lookup y.1=some .local:=by decide +kernel)(hfr:∀y∈scope.names,y.2=.free->X.env.kindOf y.1=some .cell\/X.env.kindOf y.1=some .free)(e:X.N=N:=by rfl)(f:ir N N' av scope=true:=by decide +kernel)(hs:∀x,foldedSetIterable iter X.env x=pure x:=by intro _;rfl):PE X (.ListComp bP [⟨tg,iter,bq,0⟩] scope pos) (ka wi av g tc te):=
 FD hc hk c d hfr (BH (by rw[e];exact f)) hi b ht he hs
end
def bK{env:Env}{scope:Scope}(h:scope.names.all (fun y=>decide (y.2≠.free))=true):∀y∈scope.names,y.2=.free->env.kindOf y.1=some .cell\/env.kindOf y.1=some .free:=fun y hy e=>
 absurd e (of_decide_eq_true (List.all_eq_true.mp h y hy))
def gC{env:Env}{scope:Scope}(a:Scope)(h:scope.names.all (fun y=>decide (y.2≠.free)|| decide (a.names.lookup y.1=some .cell)|| decide (a.names.lookup y.1=some .free))=true)(b:env.scope=a:=by rfl):∀y∈scope.names,y.2=.free->env.kindOf y.1=some .cell\/env.kindOf y.1=some .free:=fun y hy e=>by
 subst b;have:=List.all_eq_true.mp h y hy;simp only[Bool.or_eq_true,decide_eq_true_eq] at this;rcases this with (q|q)|q
 ·exact absurd e q
 ·exact .inl q
 ·exact .inr q
def cW(l:List Str)(h:l.Nodup:=by decide +kernel):l.Nodup:=h
def ml{te:TE}{σ:St}{H:Hp}{P:VK}{S:Hp->Prop}(h:te σ H P):bZ σ H fun b a=>if b=true then te σ a P else S a:=by
 show if true=true then te σ H P else S H;rw[if_pos rfl];exact h
def cx{i:Nat}{v:V}{te:TE}{σ:St}{H:Hp}{P:St->VK}{S:St->Hp->Prop}(h:te (σ.set i (some v)) H (P (σ.set i (some v)))):dc i v σ H fun a d=>bZ a d fun b c=>if b=true then te a c (P a) else S a c:=ml (S:=S (σ.set i (some v))) h
def zH{J:It}{g:TG}{tc:TT}{te:TE}{σ:St}{H1:Hp}{Q:VK}{D:Addr}(h:cF J g tc te σ H1 D Q):cF J g tc te σ H1 D Q:=h
def Paired.of_at{c d:Type}{R:c->d->Prop}:∀{l:List c}{m:List d},l.length=m.length->(∀(i:Nat) x y,l[i]?=some x->m[i]?=some y->R x y)->Paired R l m
 |[],[],_,_=>.nil
 |x::l,y::m,h,f=>.cons (f 0 x y rfl rfl) (Paired.of_at (by simpa using h) fun i a b h1 h2=>f (i+1) a b (by simpa using h1) (by simpa using h2))
 |[],_::_,h,_=>by simp at h
 |_::_,[],h,_=>by simp at h
end L2
end
section
namespace K18
open K1
open PySem L2
def top(i:Nat):Stmt:=PySem.Challenge.pw_seamwright_k18_chain_texts_refused.main.body.getD i (.Pass ⟨0,0,0,0⟩)
abbrev oJ:Stmt:=top 16
abbrev km:Stmt:=top 17
abbrev eI:Stmt:=top 18
abbrev ko:Stmt:=top 19
abbrev sAll:Stmt:=top 20
abbrev oM:Stmt:=top 24
structure Bt(mg:Str->Option Value):Prop where
 len:mg "len"=none
 all:mg "all"=none
 zip:mg "zip"=none
 sorted:mg "sorted"=none
 set:mg "set"=none
 list:mg "list"=none
 tuple:mg "tuple"=none
 range:mg "range"=none
 enumerate:mg "enumerate"=none
 int:mg "int"=none
 isinstance:mg "isinstance"=none
 reversed:mg "reversed"=none
 bool:mg "bool"=none
 dict:mg "dict"=none
def cv:A4 "len"=some (.builtin "len"):=δ
def oO:A4 "all"=some (.builtin "all"):=δ
def GI:A4 "zip"=some (.type "zip"):=δ
def wD:A4 "sorted"=some (.builtin "sorted"):=δ
def oP:A4 "set"=some (.type "set"):=δ
def kq:A4 "list"=some (.type "list"):=δ
def mr:A4 "tuple"=some (.type "tuple"):=δ
def oV:A4 "int"=some (.type "int"):=δ
def BI:A4 "isinstance"=some (.builtin "isinstance"):=δ
def zb{n:Nat}(h:n<=100000):n<=sizeLine:=by rw[sizeLine_eq];omega
def zK{n:Nat}(h:n<=100000):n<sizeLine:=by rw[sizeLine_eq];omega
def GJ(x:Int)(r:List Int):ee ((x::r).map V.int) (-1)=some (.int ((x::r).getLastD 0)):=by
 obtain⟨q,z,e⟩:∃q z,x::r=q++[z]:=⟨(x::r).dropLast,(x::r).getLast (List.cons_ne_nil x r),(List.dropLast_concat_getLast (List.cons_ne_nil x r)).symm⟩;rw[e,At,List.getLastD_eq_getLast?,List.getLast?_append];exact ED _ _
def kr{ps:List Int}{i:Nat}{x:V}(h:(ps.map V.int)[i]?=some x):∃p,ps[i]?=some p/\x=.int p:=by
 rw[Ao] at h;cases e:ps[i]? with
 |none=>rw[e] at h;cases h
 |some p=>rw[e] at h;exact⟨p,rfl,(Ai h).symm⟩
def eR{as:List Addr}{i:Nat}{x:V}(h:(as.map V.ref)[i]?=some x):∃a,as[i]?=some a/\x=.ref a:=by
 rw[Ao] at h;cases e:as[i]? with
 |none=>rw[e] at h;cases h
 |some p=>rw[e] at h;exact⟨p,rfl,(Ai h).symm⟩
def AX{a:Type}{l:List a}{i:Nat}{x:a}(h:l[i]?=some x):l.take (i+1)=l.take i++[x]:=by rw[List.take_add_one,h];rfl
def take_all{a:Type}(l:List a):l.take l.length=l:=AD (Ag _)
def wE(x:Int)(r:List Int):di ((x::r).map V.int) (some 1) none=r.map V.int:=by
 unfold di;have e:HT.sIx ((x::r).map V.int).length 0 (some 1)=1:=by
  have:=HT.tD ((x::r).map V.int).length 0 1;rw[show((1:Nat):Int)=1 from rfl] at this;rw[this,Ab,Ap];omega
 rw[e,HT.yg];show List.take _ (r.map V.int)=_;rw[AD (by simp)]
section
variable{P:Program}{w:World}{K:Ae}{mg:Str->Option Value}{base:Heap}
def BJ:Sp:=fun vs H Q _=>∃a ps,vs=[.ref a]/\Tp H a ps/\∀H',Same H H'->Q (.bl (zS ps)) H'
def GK:zo ["numbers"] ["numbers"] (ze oJ):=⟨rfl,rfl,rfl,δ,rfl,δ,δ⟩
def GL{f:Addr}{fd:FuncData}{Y Z:Tok}(F:Fun K "is_piece" "is_piece" oJ f fd)(B:Bt mg)(m5:mg "MOST_POINTS"=some (.int 5 Y))(kP:mg "LAST_POINT"=some (.int 99 Z)):FnOk P w K mg base aE 1 f fd ["numbers"] BJ:=by
 refine F.ok GK (fun vs H Q E h=>?_) (fun cdv A outer s H vs Q E hr h=>?_)
 ·obtain⟨a,ps,rfl,_⟩:=h;rfl
 ·obtain⟨a,ps,rfl,l,k⟩:=h
  refine⟨_,za (zI (fU (nQ fW fW zf (zk zn rfl B.len cv (af (pv 0) ao)) (gP rfl m5 (v:=.int 5) ⟨_,rfl⟩))) (zd (zm fC)) zp)
   (za (zI (PW.pt (i4 (zl jb (cA lB (pv 0) zf (fun _ _=>rfl)) zf (au _)) (jF (zl iH (cA lB (pv 0) (li ln zf) (fun _ _=>rfl)) (gP rfl kP (v:=.int 99) ⟨_,rfl⟩) (au _))))) (zd (zm fC)) zp)
   (zd (zm (zk (oj rfl) rfl B.all oO (af
    (zw ["numbers"] ["low","high"] [none,none] (FP rfl B.zip GI (af (pv 0) (af (z0 EC (pv 0) (ge zf) fX) ao)))
     (fun L C s₀ H₀ ex=>D6 rfl (xR (zr (i:=0) (cW ["low","high"]) rfl (Or.inl rfl)) (xR (zr (i:=1) (cW ["low","high"]) rfl (Or.inl rfl)) D5)))
     (fun L C s₀ H₀ ex=>zL) (fun L C s₀ H₀ ex=>hJ jb (pv 0) (pv 1) (au _)) (hfr:=bK δ) (g:=lb K 2 (sK (dc 0) (sK (dc 1) la)))) ao))))),?_⟩
  have y:zS ps=false->Q (.bl false) H:=fun e=>by have:=k H (Same.refl H);rw[e] at this;exact this
  refine⟨_,rfl,a,_,rfl,.inr (SqT.of l),_,_,rfl,rfl,_,rfl,?_⟩;rw[Ab];refine bv (fun h1=>?_) (fun h1=>?_)
  ·refine⟨_,_,rfl,rfl,_,rfl,?_⟩
   have b:1<=ps.length:=by have:=of_decide_eq_true h1;omega
   cases h5:decide ((ps.length:Int)<=5) with
   |false=>
    have c:¬ps.length<=5:=by have:=of_decide_eq_false h5;omega
    exact aK (y (by unfold zS;rw[decide_eq_false c];simp))
   |true=>
    have c:ps.length<=5:=by have:=of_decide_eq_true h5;omega
    refine aW ?_;obtain⟨x,r,rfl⟩:∃x r,ps=x::r:=by
     cases ps with
     |nil=>simp at b
     |cons x r=>exact⟨x,r,rfl⟩
    refine⟨_,rfl,a,_,_,_,rfl,rfl,SqT.of l,zC (j:=0) rfl,_,_,rfl,rfl,_,rfl,?_⟩;refine bv (fun hx=>?_) (fun hx=>?_)
    ·refine aK (y ?_)
     unfold zS;rw[show decide ((x::r).headD 0<0)=true from hx];simp
    ·refine⟨_,rfl,_,rfl,a,_,_,_,rfl,rfl,SqT.of l,GJ x r,_,_,rfl,rfl,_,rfl,?_⟩
     cases hl:decide (99<(x::r).getLastD 0) with
     |true=>
      refine aK (y ?_);unfold zS;rw[hl];simp
     |false=>
      refine aW ?_;refine⟨_,rfl,_,rfl,_,rfl,a,_,rfl,SqT.of l,?_,fun p hp=>?_⟩
      ·intro z
       have e:=HT.tD ((x::r).map V.int).length 0 1;rw[show((1:Nat):Int)=1 from rfl,z.1,Ab,Ap] at e;omega
      ·rw[wE]
       have J:Same H (upd H p (.tup (r.map V.int))):=Same.new hp;refine⟨a,p,rfl,⟨_,SqT.of (J.tp l)⟩,⟨_,SqT.of al⟩,fun D M=>?_⟩;have hm:min ((x::r).map V.int).length (r.map V.int).length=r.length:=by simp
       refine zH (FQ (K:=K) (xs:=(x::r).map V.int) (ys:=r.map V.int) (fun i σ zs o=>∃G I,σ=[G,I]/\Same (upd H p (.tup (r.map V.int))) o/\o D=some (.lst zs)/\zs=((((x::r).zip r).map fun q=>decide (q.1<q.2)).take i).map V.bl)
        ⟨none,none,rfl,Same.new M,al,rfl⟩ (fun i σ zs o ⟨_,_,_,d,_⟩=>⟨SqT.of (d.tp (J.tp l)),SqT.of (d _ _ al)⟩) ?_ ?_)
       ·rintro i σ zs o S y1 y2 e1 e2 hi T ⟨G,I,rfl,d,u,rfl⟩ N
        obtain⟨U,g1,rfl⟩:=kr e1;obtain⟨W,g2,rfl⟩:=kr e2;refine⟨S,_,rfl,SqT.of al,rfl,_,_,rfl,_,_,rfl,rfl,ml ?_⟩;refine⟨_,rfl,_,rfl,_,_,rfl,rfl,bR (AA (Nat.min_le_right _ _) (by rw[Ab];exact zb (by simp at c;omega))) hi T (by rw[zh (zg u N)];exact u) ⟨_,_,rfl,?_,al,?_⟩⟩
        ·exact(d.then (d.free N)).then M
        ·have e3:(((x::r).zip r).map fun q=>decide (q.1<q.2))[i]?=some (decide (U<W)):=by
          rw[Ao,bH.bM,g1,g2];rfl
         rw[AX e3,At];rfl
       ·rintro σ zs o ⟨G,I,rfl,d,u,rfl⟩
        refine⟨D,(((x::r).zip r).map fun q=>decide (q.1<q.2)),rfl,SqL.of ?_,?_⟩
        ·rw[u,hm,AD (by simp)]
        ·have:=k o (J.trans d)
         have O:=BD (x::r);rw[show(x::r).drop 1=r from rfl] at O;rw[O];have X:zS (x::r)=aY (x::r):=by
          unfold zS;rw[decide_eq_true b,decide_eq_true c,hl];rw[show decide ((x::r).headD 0<0)=false from by simpa using hx]
          rfl
         rw[X] at this;exact this
  ·refine⟨_,rfl,aK (y ?_)⟩
   have b:¬1<=ps.length:=fun z=>h1 (decide_eq_true ω);unfold zS;rw[decide_eq_false b]
   rfl
end
end K18
end
section
namespace K18
open K1
open PySem L2
section
variable{P:Program}{w:World}{K:Ae}{mg:Str->Option Value}{base:Heap}
def oX:Sp:=fun vs H Q _=>∃a ps,vs=[.ref a]/\Tp H a ps/\ps.length<=5/\∀D as H',Same H H'->H D=none->H' D=some (.lst (as.map V.ref))->Tps H' as (parts ps)->Q (.ref D) H'
def oZ:zo ["piece","found","point"] ["piece"] (ze km):=⟨rfl,rfl,rfl,δ,rfl,δ,δ⟩
def fq{n:Nat}(h:n<=5):2 ^ n<=32:=by
 have:2 ^ n<=2 ^ 5:=Nat.pow_le_pow_right ξ h;exact this
def BK{H2:Hp}{as:List Addr}{fs:Ξ}{q:Int}{D:Addr}{l:Addr}{Q:VK}(F:H2 l=some (.lst (as.map V.ref)))(ht:Tps H2 as fs)(I:as.length<=100)(G:∀f∈fs,f.length<=100)(s:H2 D=none)(k:∀bs b,Same H2 b->b D=some (.lst (bs.map V.ref))->Tps b bs (fs.map (·++[q]))->Q (.ref D) b):cF (et K l) (dc 0) bZ (dZ yT (a' 0) (fb (cu (a' 1) cg))) [none,some (.int q)] H2 D Q:=by
 have C:=ht.length;refine zV (xs:=as.map V.ref) (fun j σ ys b=>∃bs v,σ=[v,some (.int q)]/\Same H2 b/\b D=some (.lst ys)/\ys=bs.map V.ref/\Tps b bs ((fs.take j).map (·++[q]))) ?_ ?_ ?_ ?_
 ·exact⟨[],none,rfl,Same.new s,al,rfl,.nil⟩
 ·rintro j σ ys b ⟨bs,v,rfl,d,g,rfl,hb⟩
  exact SqL.of (d _ _ F)
 ·rintro j σ ys b x hx y hy ⟨bs,v,rfl,d,g,rfl,hb⟩
  obtain⟨a,A,rfl⟩:=eR hx;obtain⟨f,o,hf⟩:=ht.get A;refine cx ?_;refine⟨_,rfl,_,rfl,zb (by simp),fun t u=>?_⟩;have E:=d.tp hf;have r:Same b (upd b t (.tup [.int q])):=Same.new u;refine⟨a,t,_,_,rfl,rfl,r _ _ E,al,?_,fun p i w hp=>?_⟩
  ·rw[Ab]
   exact zb (by have:=G f (Ay o);simp;omega)
  ·have h:Same b i:=r.trans w
   refine bR (ys:=bs.map V.ref) (by rw[Ab];exact zb ω) y hy (h _ _ g) ⟨bs++[p],_,rfl,(d.trans h).then s,al,by rw[At];rfl,?_⟩;rw[AX o,At];have H:p≠D:=dF hp (h _ _ g) (by intro z;cases z);have keep:∀c xs,i c=some (.tup xs)->upd i D (.lst (bs.map V.ref++[V.ref p])) c=some (.tup xs):=fun c xs e=>by
    rw[zh (dF e (h _ _ g) (by intro z;cases z))];exact e
   refine Tps.snoc (Paired.mapP (h.tps hb) fun c xs e=>keep c _ e) (keep p _ ?_);rw[hp,At];rfl
 ·rintro σ ys b ⟨bs,v,rfl,d,g,rfl,hb⟩
  rw[Ab,C,take_all] at hb;exact k bs b d g hb
def GM{f:Addr}{fd:FuncData}(F:Fun K "parts_of" "parts_of" km f fd):FnOk P w K mg base aE 1 f fd ["piece"] oX:=by
 refine F.ok oZ (fun vs H Q E h=>?_) (fun cdv A outer s H vs Q E hr h=>?_)
 ·obtain⟨a,ps,rfl,_⟩:=h;rfl
 ·obtain⟨a,ps,rfl,u,S,k⟩:=h
  refine⟨_,za (zj (i:=1) oZ.nd rfl (Or.inl rfl) (zN (af (iI ao) ao)))
   (za (eu A2 rfl (jJ (pv 0)) (zr (i:=2) oZ.nd rfl (Or.inr rfl))
    (zd (zj (i:=1) oZ.nd rfl (Or.inl rfl) (zq gg (pv 1) (zw ["piece","found","point"] ["part","point"] [none,some 2] (zG (pv 1)) (fun o C s₀ H₀ ex=>zr (i:=0) (cW ["part","point"]) rfl (Or.inl rfl)) (fun o C s₀ H₀ ex=>zL)
     (fun o C s₀ H₀ ex=>zq yU (pv 0) (iI (af (pv 1) ao))) (hfr:=gC (ze km) δ))))))
   (zd (zm (z0 EJ (pv 1) (ge zf) fX)))),?_⟩
  refine⟨zb (by simp),fun e he=>⟨zb (by simp),fun l b=>?_⟩⟩;have y:Same H (upd (upd H e (.tup [])) l (.lst [.ref e])):=(Same.new he).then ((Same.new he).free b);have j:e≠l:=zg (H:=upd H e (.tup [])) al b;refine⟨_,rfl,a,rfl,⟨_,SqT.of (y _ _ u)⟩,xU (K:=K) (a:=a) (xs:=ps.map V.int) (fun i σ H2=>∃l as v,σ=[some (.ref a),some (.ref l),v]/\Same H H2/\H l=none/\H2 l=some (.lst (as.map V.ref))/\Tps H2 as (subs (ps.take i)))
   ⟨l,[e],none,rfl,y,(Same.new he).free b,al,.cons (by show upd _ _ _ e=_;rw[zh j];exact al) .nil⟩ (fun i σ H2 _ ⟨_,_,_,_,c,_⟩=>SqT.of (c _ _ u)) ?_ ?_⟩
  ·rintro i x σ H2 hx ⟨l,as,v,rfl,c,J,b,ht⟩
   obtain⟨q,eq,rfl⟩:=kr hx;have hi:i<ps.length:=(List.getElem?_eq_some_iff.mp eq).1;have M:=ht.length;have T:as.length<=32:=by
    rw[M,oI,AV];exact fq ω
   have hm:∀f∈subs (ps.take i),f.length<=100:=fun f hf=>by
    have:=BC _ f hf;rw[AV] at this;omega
   refine⟨_,rfl,_,rfl,l,rfl,⟨_,SqL.of b⟩,fun D d=>zH (BK b ht ω hm d fun bs U g I hb=>?_)⟩;have N:=hb.length;rw[Ab] at N;refine⟨l,D,_,_,rfl,rfl,g _ _ b,I,by rw[Ab,Ab];exact zb ω,fun p r=>?_⟩;have z:H p=none:=(c.trans g).free r;refine⟨p,as++bs,_,rfl,(c.trans g).then z,z,by rw[al,At],?_⟩;rw[AX eq,wA];exact(Same.new r).tps ((g.tps ht).append hb)
  ·rintro σ H2 ⟨l,as,v,rfl,c,J,b,ht⟩
   rw[Ab,take_all] at ht;refine⟨_,rfl,_,rfl,l,_,rfl,SqL.of b,fun D d=>?_⟩;have G:H D=none:=c.free d;obtain⟨t,L,_⟩:=wB ps;refine k D (as.drop 1) _ (c.then G) G ?_ ?_
   ·rw[al]
    unfold di;have O:1<=as.length:=by rw[ht.length,L];simp
    have e1:HT.sIx (as.map V.ref).length 0 (some 1)=1:=by
     have:=HT.tD (as.map V.ref).length 0 1;rw[show((1:Nat):Int)=1 from rfl] at this;rw[this,Ab];omega
    rw[e1,HT.yg,<-List.map_drop,AD (by simp)]
   ·exact(Same.new d).tps (ht.drop 1)
def GN:zo ["piece"] ["piece"] (ze eI):=⟨rfl,rfl,rfl,δ,rfl,δ,δ⟩
def GO{f:Addr}{fd:FuncData}(F:Fun K "order_key" "order_key" eI f fd)(B:Bt mg):FnOk P w K mg base aE 1 f fd ["piece"] ot:=by
 refine F.ok GN (fun vs H Q E h=>?_) (fun cdv A outer s H vs Q E hr h=>?_)
 ·obtain⟨a,ps,rfl,_⟩:=h;rfl
 ·obtain⟨a,ps,rfl,b,k⟩:=h
  refine⟨_,zd (zm (iI (af (zk zn rfl B.len cv (af (pv 0) ao)) (af (pv 0) ao)))),?_⟩;refine⟨_,rfl,a,_,rfl,.inr (SqT.of b),_,rfl,zb (by simp),fun p hp=>?_⟩;rw[Ab];exact k p hp
def wF(K:Ae):Sp:=fun vs H Q _=>∃l as c,vs=[.ref l]/\SqL K H l (as.map V.ref)/\Tps H as c/\c.length<64/\
 ∀D H2(d:List (List Int×Addr)),Same H H2->H D=none->H2 D=some (.lst (d.map fun q=>V.ref q.2))->d.Perm (c.zip as)->d.Pairwise (fun a b=>HT.lexLt ((b.1.length:Int)::b.1) ((a.1.length:Int)::a.1)=false)->Q (.ref D) H2
def GP:zo ["some"] ["some"] (ze ko):=⟨rfl,rfl,rfl,δ,rfl,δ,δ⟩
def BL{f b:Addr}{fd c:FuncData}(F:Fun K "in_order" "in_order" ko f fd)(B:Bt mg)(i:Fun K "order_key" "order_key" eI b c)(bk:Binds K c ["piece"] [])(mk:mg "order_key"=some (.ref b)):FnOk P w K mg base aE 4 f fd ["some"] (wF K):=by
 have g:FnOk P w K mg base aE 1 b c ["piece"] ot:=GO i B;refine F.ok GP (fun vs H Q E h=>?_) (fun cdv A outer s H vs Q E hr h=>?_)
 ·obtain⟨l,as,d,rfl,_⟩:=h;rfl
 ·obtain⟨l,as,d,rfl,e,ht,a,k⟩:=h
  refine⟨_,zd (zm (F5 g hr bk rfl B.sorted wD rfl mk (af (pv 0) ao))),?_⟩;exact⟨_,rfl,l,as,d,rfl,e,ht,a,k⟩
end
end K18
end
section
namespace K18
open K1
open PySem L2 STb
def Tps.upd{H:Hp}{d:Addr}{o o':HO}{as:List Addr}{b:Ξ}(h:Tps H as b)(hd:H d=some o')(c:∀xs,o'≠.tup xs):Tps (L2.upd H d o) as b:=
 Paired.mapP h fun a ps e=>by
  show L2.upd H d o a=_;rw[zh (dF (show H a=some _ from e) hd fun z=>c _ z.symm)];exact e
def fy(seq:Ξ):List (List Key×V):=(dd seq).map fun ps=>((ps.map Sum.inl:List Key),V.bl true)
def BM(seq:Ξ):(fy seq).length<=seq.length:=by unfold fy;rw[Ab];exact gl seq
def BN(seq:Ξ)(ps:List Int):putK (fy seq) (ps.map Sum.inl) (.bl true)=fy (seq++[ps]):=by
 unfold putK fy;rw[iq];have b:(((dd seq).map fun ps=>((ps.map Sum.inl:List Key),V.bl true)).any fun a=>decide (a.1=ps.map Sum.inl))=decide (ps∈dd seq):=by
  rw[List.any_map]
  by_cases h:ps∈dd seq
  ·rw[decide_eq_true h,List.any_eq_true]
   exact⟨ps,h,by simp⟩
  ·rw[decide_eq_false h,List.any_eq_false]
   intro q hq;simp only[Function.comp,decide_eq_true_eq,fG];rintro rfl;exact h hq
 rw[b]
 by_cases h:ps∈dd seq
 ·rw[decide_eq_true h,if_pos rfl,if_pos h,AC]
  refine AZ fun q hq=>?_;simp only[Function.comp];split<;>rfl
 ·rw[decide_eq_false h,if_neg (by simp),if_neg h,At]
  rfl
def BO{H:Hp}{seq:Ξ}{bs:List Addr}(h:Paired (fun(p:List Key×V) b=>H b=some (.tup (p.1.map kV))) (fy seq) bs):Tps H bs (dd seq):=by
 unfold fy at h;generalize dd seq=l at h
 induction l generalizing bs with
 |nil=>cases h;exact .nil
 |cons x l ih=>
  rw[AE] at h;cases h with
  |cons r t=>
   refine .cons ?_ (ih t);show H _=_;rw[r,AC]
   rfl
def wG(a:Ξ)(h:∀ps∈a,ps.length<=5):(a.flatMap parts).length<=31*a.length:=by
 induction a with
 |nil=>simp
 |cons x l ih=>
  rw[List.flatMap_cons,Aq,kl,Ap];have:=ih fun ps hp=>h ps (Av _ hp);have:=fq (h x Am);omega
def BP{a:Ξ}{i:Nat}{ps:List Int}(h:a[i]?=some ps):(a.take (i+1)).flatMap parts=(a.take i).flatMap parts++parts ps:=by
 rw[AX h,List.flatMap_append];simp
def Told(H H2:Hp)(d:Ξ)(D:Addr)(c:List (List Int×Addr)):Prop:=
 Same H H2/\H D=none/\H2 D=some (.lst (c.map fun q=>V.ref q.2))/\(∀q∈c,Tp H2 q.2 q.1)/\(c.map (·.1)).Perm (dd (d.flatMap parts))/\c.Pairwise (fun a b=>HT.lexLt ((b.1.length:Int)::b.1) ((a.1.length:Int)::a.1)=false)
section
variable{P:Program}{w:World}{K:Ae}{mg:Str->Option Value}{base:Heap}
def ms(K:Ae):Sp:=fun vs H Q _=>∃l as a,vs=[.ref l]/\SqL K H l (as.map V.ref)/\Tps H as a/\(∀ps∈a,ps.length<=5)/\a.length<=20/\(dd (a.flatMap parts)).length<64/\∀D H2 b,Told H H2 a D b->Q (.ref D) H2
def pj:zo ["some","found","piece","part"] ["some"] (ze sAll):=⟨rfl,rfl,rfl,δ,rfl,δ,δ⟩
def BQ{f fp T fk:Addr}{fd U W cM:FuncData}(F:Fun K "all_parts" "all_parts" sAll f fd)(B:Bt mg)(Fp:Fun K "parts_of" "parts_of" km fp U)(bp:Binds K U ["piece"] [])(mp:mg "parts_of"=some (.ref fp))(Fo:Fun K "in_order" "in_order" ko T W)(bo:Binds K W ["some"] [])(mo:mg "in_order"=some (.ref T))(Fk:Fun K "order_key" "order_key" eI fk cM)(bk:Binds K cM ["piece"] [])(mk:mg "order_key"=some (.ref fk)):FnOk P w K mg base aE 5 f fd ["some"] (ms K):=by
 have Gp:FnOk P w K mg base aE 1 fp U ["piece"] oX:=GM Fp;have Go:FnOk P w K mg base aE 4 T W ["some"] (wF K):=BL Fo B Fk bk mk;refine F.ok pj (fun vs H Q E h=>?_) (fun cdv A outer s H vs Q E hr h=>?_)
 ·obtain⟨l,as,g,rfl,_⟩:=h;rfl
 ·obtain⟨l,as,g,rfl,Y,ht,Z,dP,L,k⟩:=h
  have hu:=hY hr;have S:Room 1 _:=hr.mono ξ;refine⟨_,za (zj (i:=1) pj.nd rfl (Or.inl rfl) jW)
   (za (eu A2 rfl (zG (pv 0)) (zr (i:=2) pj.nd rfl (Or.inl rfl))
    (zd (eu A2 rfl (zG (zu Gp S rfl mp Fp.kp bp .nil aw (af (pv 2) ao))) (zr (i:=3) pj.nd rfl (Or.inl rfl))
     (zd (jU hu (pv 1) (pv 3) fC rfl)))))
   (zd (zm (zu Go hr rfl mo Fo.kp bo .nil aw (af (zt (yR rfl) rfl B.list kq (af (pv 1) ao)) ao))))),?_⟩
  intro d hd;have aQ:=ht.length;refine⟨_,rfl,l,rfl,⟨_,(Same.new hd).seq Y⟩,gQ (K:=K) (a:=l) (xs:=as.map V.ref) (fun i σ H2=>∃v o,σ=[some (.ref l),some (.ref d),v,o]/\Same H H2/\H2 d=some (.dT (fy ((g.take i).flatMap parts))))
   ⟨none,none,rfl,Same.new hd,al⟩ (fun i σ H2 _ ⟨_,_,_,e,_⟩=>e.seq Y) ?_ ?_⟩
  ·rintro i x σ H2 hx ⟨v,o,rfl,e,C⟩
   obtain⟨a,ea,rfl⟩:=eR hx;obtain⟨ps,M,cR⟩:=ht.get ea;have c_:=Z ps (Ay M);have hi:i<g.length:=(List.getElem?_eq_some_iff.mp M).1;refine⟨_,rfl,a,ps,rfl,e.tp cR,c_,fun D cs H3 r cz u y=>⟨D,rfl,⟨_,SqL.of u⟩,?_⟩⟩;have kC:=y.length;have kz:D≠d:=dF u (r _ _ C) (by intro z;cases z);refine gQ (K:=K) (a:=D) (xs:=cs.map V.ref) (fun j σ p=>∃o,σ=[some (.ref l),some (.ref d),some (.ref a),o]/\Same H p/\p D=some (.lst (cs.map V.ref))/\Tps p cs (parts ps)/\p d=some (.dT (fy ((g.take i).flatMap parts++(parts ps).take j))))
    ⟨_,rfl,e.trans r,u,y,by rw[List.take_zero,List.append_nil];exact r _ _ C⟩ (fun j σ p _ ⟨_,_,_,q,_⟩=>SqL.of q) ?_ ?_
   ·rintro j x σ p hx ⟨o,rfl,N,cC,O,G⟩
    obtain⟨c,ec,rfl⟩:=eR hx;obtain⟨f,ef,hf⟩:=O.get ec;have I:(fy ((g.take i).flatMap parts++(parts ps).take j)).length<sizeLine:=by
     refine zK (AA (BM _) ?_);rw[Aq];have h1:=wG (g.take i) (fun q hq=>Z q (List.mem_of_mem_take hq));have h2:=kl ps;have h3:=fq c_;rw[AV] at h1 ⊢;omega
    refine⟨_,rfl,_,rfl,d,_,rfl,DPut.t (k:=f.map Sum.inl) G (by rw[AC];exact hf) I,⟨_,rfl,N.then hd,?_,?_,?_⟩⟩
    ·rw[zh kz];exact cC
    ·exact Tps.upd O G (by intro xs z;cases z)
    ·rw[al,BN,List.append_assoc,<-AX ef]
   ·rintro σ p ⟨o,rfl,N,cC,O,G⟩
    refine⟨_,_,rfl,N,?_⟩;rw[Ab,kC,take_all] at G;rw[BP M];exact G
  ·rintro σ H2 ⟨v,o,rfl,e,C⟩
   rw[Ab,aQ,take_all] at C;refine⟨_,rfl,d,_,rfl,C,fun bs hb X J=>?_⟩;have tb:=BO hb;have iw:=tb.length;refine⟨X,bs,dd (g.flatMap parts),rfl,SqL.of al,(Same.new J).tps tb,L,fun D H3 qs r u ai hp hs=>?_⟩;have gI:H X=none:=e.free J;refine k D H3 qs ⟨(e.then gI).trans r,(e.then gI).free u,ai,fun q hq=>?_,?_,hs⟩
   ·obtain⟨m,em⟩:=List.mem_iff_getElem?.mp (hp.mem_iff.mp hq)
    rw[bH.bM] at em;cases e1:(dd (g.flatMap parts))[m]? with
    |none=>rw[e1] at em;cases em
    |some f=>
     cases e2:bs[m]? with
     |none=>rw[e1,e2] at em;cases em
     |some b=>
      rw[e1,e2] at em;obtain rfl:(f,b)=q:=Ai em;exact r.tp ((Same.new J).tp (om tb m b f e2 e1))
   ·have:=hp.map (·.1)
    rw[List.map_fst_zip ω] at this;exact this
def BR(K:Ae):Sp:=fun vs H Q _=>∃l as a,vs=[.ref l]/\SqL K H l (as.map V.ref)/\Tps H as a/\(a.all zS=true->(dd (a.flatMap parts)).length<64)/\∀H',Same H H'->Q (.bl (bS a)) H'
def GQ:zo ["web"] ["web"] (ze oM):=⟨rfl,rfl,rfl,δ,rfl,δ,δ⟩
def GR{f J fa fp X Y:Addr}{fd L M Z dh cM:FuncData}{t5 l9 N mQ:Tok}(F:Fun K "is_web" "is_web" oM f fd)(B:Bt mg)(m5:mg "MOST_POINTS"=some (.int 5 t5))(kP:mg "LAST_POINT"=some (.int 99 l9))(lP:mg "MOST_HANDED"=some (.int 20 N))(kt:mg "MOST_PIECES"=some (.int 200 mQ))(Fi:Fun K "is_piece" "is_piece" oJ J L)(bi:Binds K L ["numbers"] [])(mi:mg "is_piece"=some (.ref J))(Fa:Fun K "all_parts" "all_parts" sAll fa M)(ba:Binds K M ["some"] [])(ma:mg "all_parts"=some (.ref fa))(Fp:Fun K "parts_of" "parts_of" km fp Z)(bp:Binds K Z ["piece"] [])(mp:mg "parts_of"=some (.ref fp))(Fo:Fun K "in_order" "in_order" ko X dh)(bo:Binds K dh ["some"] [])(mo:mg "in_order"=some (.ref X))(Fk:Fun K "order_key" "order_key" eI Y cM)(bk:Binds K cM ["piece"] [])(mk:mg "order_key"=some (.ref Y)):FnOk P w K mg base aE 6 f fd ["web"] (BR K):=by
 have Gi:FnOk P w K mg base aE 1 J L ["numbers"] BJ:=GL Fi B m5 kP;have Ga:FnOk P w K mg base aE 5 fa M ["some"] (ms K):=BQ Fa B Fp bp mp Fo bo mo Fk bk mk;refine F.ok GQ (fun vs H Q E h=>?_) (fun cdv A outer s H vs Q E hr h=>?_)
 ·obtain⟨l,as,b,rfl,_⟩:=h;rfl
 ·obtain⟨l,as,b,rfl,g,ht,y,k⟩:=h
  have aM:=hr.units;have G:Room 1 _:=hr.mono ξ;refine⟨_,za (zI (zl iH (zk zn rfl B.len cv (af (pv 0) ao)) (gP rfl lP (v:=.int 20) ⟨_,rfl⟩) (au _)) (zd (zm fC)) zp)
   (za (zI (fU (iE (zk (oj rfl) rfl B.all oO (af
    (zw ["web"] ["numbers"] [none] (zG (pv 0)) (fun O C s₀ H₀ ex=>zr (i:=0) (cW ["numbers"]) rfl (Or.inl rfl)) (fun O C s₀ H₀ ex=>zL)
     (fun O C s₀ H₀ ex=>zu Gi G rfl mi Fi.kp bi .nil aw (af (pv 0) ao)) (hfr:=bK δ)) ao)))) (zd (zm fC)) zp)
   (za (zI (zl jb (zk GE rfl B.len cv (af (zt (GD rfl aM) rfl B.set oP (af (pv 0) ao)) ao)) (zk zn rfl B.len cv (af (pv 0) ao)) (au _)) (zd (zm fC)) zp)
   (zd (zm (hJ fW (zk zn rfl B.len cv (af (zu Ga hr rfl ma Fa.kp ba .nil aw (af (pv 0) ao)) ao)) (gP rfl kt (v:=.int 200) ⟨_,rfl⟩) (au _)))))),?_⟩
  have U:=ht.length;refine⟨_,rfl,l,_,rfl,.inl g,_,_,rfl,rfl,_,rfl,?_⟩;rw[Ab];refine bv (fun h1=>?_) (fun h1=>?_)
  ·have:=k H (Same.refl H)
   rw[GH b (by have:=of_decide_eq_true h1;omega)] at this;exact this
  ·have W:b.length<=20:=by
    have:¬((20:Int)<as.length):=fun z=>h1 (decide_eq_true z);omega
   refine⟨_,rfl,l,rfl,⟨_,g⟩,fun D T=>zH (zV (K:=K) (a:=l) (xs:=as.map V.ref) (fun i σ ys d=>∃v,σ=[v]/\Same H d/\d D=some (.lst ys)/\ys=((b.map zS).take i).map V.bl)
    ⟨none,rfl,Same.new T,al,rfl⟩ (fun i σ ys d ⟨_,_,c,_⟩=>c.seq g) ?_ ?_)⟩
   ·rintro i σ ys d x hx hi hy ⟨v,rfl,c,r,rfl⟩
    obtain⟨a,ea,rfl⟩:=eR hx;obtain⟨ps,cp,u⟩:=ht.get ea;refine cx ?_;refine⟨_,rfl,a,ps,rfl,c.tp u,fun H4 p=>bR (by rw[Ab];exact zb ω) hi hy (p _ _ r) ⟨_,rfl,(c.trans p).then T,al,?_⟩⟩;have e:(b.map zS)[i]?=some (zS ps):=by rw[Ao,cp];rfl
    rw[AX e,At];rfl
   ·rintro σ ys d ⟨v,rfl,c,r,rfl⟩
    rw[Ab,U,AD (by simp)] at r;refine⟨D,b.map zS,rfl,SqL.of r,_,rfl,?_⟩;have lG:(b.map zS).all id=b.all zS:=by rw[List.all_map];rfl
    rw[lG];cases hp:b.all zS with
    |false=>
     refine aK ?_;have:=k d c;rw[show bS b=false from by unfold bS;rw[hp];simp] at this;exact this
    |true=>
     refine aW ?_;refine⟨_,rfl,l,as,b,rfl,c.seq g,c.tps ht,ω,fun S hS=>?_⟩;have j:Same H (upd d S (gB S (dd b).length)):=c.then (c.free hS);refine⟨S,_,rfl,al,_,rfl,l,_,rfl,.inl (j.seq g),_,_,rfl,rfl,_,rfl,?_⟩;rw[Ab,U];refine bv (fun h2=>?_) (fun h2=>?_)
     ·have I:(dd b).length<b.length:=by have:=of_decide_eq_true h2;omega
      have:=k _ j;rw[show bS b=false from by unfold bS;rw[decide_eq_true I];simp] at this;exact this
     ·have I:¬(dd b).length<b.length:=fun z=>h2 (decide_eq_true ω)
      refine⟨_,rfl,l,as,b,rfl,j.seq g,j.tps ht,fun ps u=>?_,W,y hp,fun D2 H4 qs ⟨p,_,cC,_,bA,_⟩=>?_⟩
      ·have:=List.all_eq_true.mp hp ps u
       unfold zS at this;simp only[AB,decide_eq_true_eq] at this;exact this.1.1.1.2
      ·refine⟨D2,_,rfl,.inl (SqL.of cC),_,_,rfl,rfl,?_⟩
       have o:(qs.map fun q=>V.ref q.2).length=(dd (b.flatMap parts)).length:=by
        rw[Ab,<-bA.length_eq,Ab]
       rw[o];have:=k H4 (j.trans p);have e:bS b=decide (((dd (b.flatMap parts)).length:Int)<=200):=by
        unfold bS;rw[hp,decide_eq_true W,decide_eq_false I]
        by_cases q:(dd (b.flatMap parts)).length<=200
        ·rw[decide_eq_true q,decide_eq_true (show((dd (b.flatMap parts)).length:Int)<=200 from ω)];rfl
        ·rw[decide_eq_false q,decide_eq_false (show ¬((dd (b.flatMap parts)).length:Int)<=200 from ω)];rfl
       rw[e] at this;exact this
end
end K18
end
section
namespace L2
open PySem PySem.Spec PyProof.Rows
section
variable{X:Cx}
def pk(v d:Addr):HO:=.ext fun h=>h.IsValuesView v d
end
end L2
end
section
namespace Dk
open PySem PySem.Spec PyProof.Rows
section
variable{prog:Program}{w:World}{A:Around}{E:Ω}{s:Shared}{it d v:Addr}{i ep:Nat}{es:Array DictEntry}
def mu{Q:Ω}(a:s.heap.IsValuesView v d)(hm:IsD s.heap d es ep)(h:Q (.ref s⁻¹) {s with heap:=s.heap.push {cls:=.type "dict_valueiterator",data:=.fields #[.ref d,.int 0 0,.int es.size 0,.int ep 0]}}):wpAny (model prog w) A (pyIter (.ref v)) Q E s:=by
 obtain⟨i,e,j,f⟩:=id a;obtain⟨o,b,hc,c⟩:=id hm;refine wpAny_pyIter_slot a.typeIs PySem.F.slot_dict_values_iter (A3 PySem.F.slot_dict_values_iter a.typeIs PySem.F.entry_dict_values_iter ?_ (PySem.F.args_dict_values_iter_1 _));unfold Builtin.«dict_values.__iter__»;refine Aa (Ac ?_);refine Aa ?_;unfold Builtin.Dict_items.dictOf;refine Aa (AN e f (x:=.ref d) rfl (Ac ?_));refine Aa ?_;unfold Builtin.Dict_items.newIterator;refine Aa (AY b c ?_);refine Aa (wpAny_dictEpoch b c ?_);have g:Builtin.Dict_items.ownsTuple "dict_valueiterator"=false:=ξ
 simp only[g,An,if_false];refine AS (Ac ⟨_,rfl,"dict_valueiterator",_,⟨_,Ax _ rfl,rfl⟩,PySem.F.slot_dict_valueiterator_next.lookup,?_⟩)
 simpa[rawInt] using h
def mv{Q:Option Value->Shared->Prop}(a:s.heap.IsValIter it d i es.size ep)(hm:IsD s.heap d es ep)(hx:i<es.size)(h:∀h',h'.IsValIter it d (i+1) es.size ep->AR it s.heap h'->Q (some es[i].val) {s with heap:=h'}):wpAny (model prog w) A (pyNext (.ref it)) Q E s:=by
 obtain⟨o,b,hc,hd⟩:=id a;obtain⟨j,e,l,f⟩:=id hm;unfold pyNext;refine Aa (wpAny_attempt (wpAny_callSpecial?_slot (name:=Str.ofString "__next__") a.typeIs PySem.F.slot_dict_valueiterator_next
  (A3 PySem.F.slot_dict_valueiterator_next a.typeIs PySem.F.entry_dict_valueiterator_next ?_ (PySem.F.args_dict_valueiterator_next_1 _))))
 refine Aa (Ac ?_);refine Aa ?_;refine Aa ?_
 first|refine Aa (wpAny_typeNameOfWhole_valiter a.typeIs (Ac ?_))|refine Aa (wpAny_typeNameOf_valiter a.typeIs (Ac ?_))
 refine Aa (wpAny_fieldsOf b hd ?_);have g:Builtin.Dict_items.ownsTuple "dict_valueiterator"=false:=ξ
 simp only[g,An,if_false];show wpAny _ _ (if(Value.ref d==Value.none)=true then _ else _) _ _ s;rw[if_neg (show ¬((Value.ref d==Value.none)=true) from As)];refine Aa (Ac ?_);refine Aa (AY e f ?_);rw[if_neg (by simp)];refine Aa (Ac ?_);refine Aa (wpAny_dictEpoch e f ?_);rw[if_neg (by simp)];refine Ac ?_;simp only[show ¬((i:Int)<0) from ω,if_false,Int.toNat_natCast,Array.getElem?_eq_getElem hx];refine Aa ?_
 first|refine Aa (wpAny_typeNameOfWhole_valiter a.typeIs (Ac ?_))|refine Aa (wpAny_typeNameOf_valiter a.typeIs (Ac ?_))
 refine Aa (wpAny_isOneOf_valiter a.typeIs ?_);show wpAny _ _ (setField (.ref it) 1 (rawInt ((i:Int)+1)) >>= _) _ _ s;refine Aa (A8 b hd (by simp) ?_);have c:(s.heap.update it (A5 (·.setIfInBounds 1 (rawInt ((i:Int)+1))))).IsValIter it d (i+1) es.size ep:=
  ⟨_,Heap.get?_update_self _ b (Obj.isFreed_of_fields (A0 hd _)),(Obj.cls_mapFields ..).trans hc,by rw[A0 hd];simp[rawInt]⟩
 refine Aa (AU ?_);refine Aa (wpAny_isOneOf_valiter (s:={s with heap:=s.heap.update it (A5 (·.setIfInBounds 1 (rawInt ((i:Int)+1))))}) c.typeIs ?_);refine Aa (wpAny_isOneOf_valiter (s:={s with heap:=s.heap.update it (A5 (·.setIfInBounds 1 (rawInt ((i:Int)+1))))}) c.typeIs ?_);show wpAny _ _ (pure es[i].val) _ _ _;exact Ac (Ac ⟨_,rfl,Ac (h _ c (A1 ..))⟩)
def mw{Q:Option Value->Shared->Prop}(i:A.handled=none)(c:s.heap.IsValIter it d es.size es.size ep)(hm:IsD s.heap d es ep)(j:∀h',Heap.ExtBut it s.heap h'->Q none {s with heap:=h'}):wpAny (model prog w) A (pyNext (.ref it)) Q E s:=by
 obtain⟨o,e,hc,hd⟩:=id c;obtain⟨l,f,p,g⟩:=id hm;unfold pyNext;refine Aa (wpAny_attempt (wpAny_callSpecial?_slot (name:=Str.ofString "__next__") c.typeIs PySem.F.slot_dict_valueiterator_next
  (A3 PySem.F.slot_dict_valueiterator_next c.typeIs PySem.F.entry_dict_valueiterator_next ?_ (PySem.F.args_dict_valueiterator_next_1 _))))
 refine Aa (Ac ?_);refine Aa ?_;refine Aa ?_
 first|refine Aa (wpAny_typeNameOfWhole_valiter c.typeIs (Ac ?_))|refine Aa (wpAny_typeNameOf_valiter c.typeIs (Ac ?_))
 refine Aa (wpAny_fieldsOf e hd ?_);have h:Builtin.Dict_items.ownsTuple "dict_valueiterator"=false:=ξ
 simp only[h,An,if_false];show wpAny _ _ (if(Value.ref d==Value.none)=true then _ else _) _ _ s;rw[if_neg (show ¬((Value.ref d==Value.none)=true) from As)];refine Aa (Ac ?_);refine Aa (AY f g ?_);rw[if_neg (by simp)];refine Aa (Ac ?_);refine Aa (wpAny_dictEpoch f g ?_);rw[if_neg (by simp)];refine Ac ?_;simp only[show ¬((es.size:Int)<0) from ω,if_false,Int.toNat_natCast,Array.getElem?_eq_none (Ag es.size)];refine Aa ?_
 first|refine Aa (wpAny_typeNameOfWhole_valiter c.typeIs (Ac ?_))|refine Aa (wpAny_typeNameOf_valiter c.typeIs (Ac ?_))
 show wpAny _ _ (setField (.ref it) 0 .none >>= _) _ _ s;refine Aa (A8 e hd (by simp) ?_);show wpAny _ _ (newExc (.type "StopIteration") [] >>= _) _ _ _;refine Aa ?_;simp only[newExc,newTuple];refine Aa (AS ?_ (by size_fits));refine Aa (m:=firstArgMember _ _) (wpAny_of_eq (a:=Value.none) (by first|rfl|(simp only[firstArgMember];rfl)) ?_);refine AS ?_ (by size_fits);simp only[raiseNew];refine Aa (wpAny_handled ?_);rw[show A.in1.handled=none from i];refine Aa (Ac (wpAny_throw ?_));refine Aa (wpAny_isInstance (T:="StopIteration") (b:=true) ⟨_,Ax _ rfl,rfl⟩ isSubtype_stop ?_);exact Ac (j _ (((A1 ..).extBut.push _).push _))
end
end Dk
namespace L2
open PySem PySem.Spec PyProof.Rows
section
variable{X:Cx}
def BS(hc:X.calm=true):cE X (.type "list") (fun xs H Q=>∃a kvs,xs=[.ref a]/\Rd H a (.dT kvs)/\
  ∀(bs:List Addr),Paired (fun(p:List Key×V) b=>H b=some (.tup (p.1.map kV))) kvs bs->∀l,H l=none->Q (.ref l) (upd H l (.lst (bs.map V.ref)))):=by
 intro aa s σ H xs us Q I r h;obtain⟨a,kvs,rfl,hq,q⟩:=h;obtain⟨u,rfl,j⟩:=vals1 r;cases j;obtain⟨z,y,ys,c,o,es,ep,h1,h2,v,h4,E⟩:=(show zA X.prog X.w H s.heap a (.dT kvs) from hq.ok I.hok);have d:es.size=kvs.length:=by
  have:=congrArg List.length h4;rw[Ab,<-Paired.length c] at this
  simpa using this
 refine PySem.W.kdl_call (Dk.src (ep:=ep) (es:=es) y) (I.ok.hd hc) ⟨o,h1,h2,v⟩ (by rw[d];exact z) fun h' tk acc f g e it=>?_;obtain⟨n1,n2⟩:=it;have A:Paired (fun(p:List Key×V) b=>H b=some (.tup (p.1.map kV))) kvs (ys.map (·.2.1)):=by
  have:∀{l:List (List Key×V)}{m:List (List Key×Addr×Value)},KT H l m->Paired (fun(p:List Key×V) b=>H b=some (.tup (p.1.map kV))) l (m.map (·.2.1)):=by
   intro l m q
   induction q with
   |nil=>exact .nil
   |cons hq t ih=>exact .cons hq.2.1 ih
  exact this c
 have C:acc.toList=(ys.map (·.2.1)).map Value.ref:=by
  apply List.ext_getElem?;intro i;have hy:ys.length=acc.size:=by rw[n1,d];exact(Paired.length c).symm
  by_cases hi:i<acc.size
  ·obtain⟨x,g1,g2⟩:=n2 i acc[i] (by simp[hi])
   have g3:es.toList[i]?=some x:=by simpa using g1
   rw[h4,Ao] at g3;have g4:ys[i]?=some ys[i]:=by simp[hy,hi]
   rw[g4] at g3;simp only[A7,Option.some.injEq] at g3;simp only[Ao,g4,A7,AM,Array.getElem?_eq_getElem hi];rw[g2,<-g3]
   rfl
  ·have g1:acc.toList.length<=i:=by simp;omega
   have g2:((ys.map (·.2.1)).map Value.ref).length<=i:=by simp[hy];omega
   rw[List.getElem?_eq_none g1,List.getElem?_eq_none g2]
 have D:Vals ((ys.map (·.2.1)).map V.ref) acc.toList:=by
  rw[C];generalize ys.map (·.2.1)=bs
  induction bs with
  |nil=>exact .nil
  |cons b bs ih=>exact .cons rfl ih
 refine⟨.ref s⁻¹,_,I.laid g (Ag _) (show zA X.prog X.w _ h' _ (.lst ((ys.map (·.2.1)).map V.ref)) from⟨?_,acc.toList,f,D,by simpa using e⟩),rfl,q _ A _ (I.hok.fresh (Ag _))⟩;simp only[Ab];rw[<-Paired.length c];exact z
def zkk:V->List V->Hp->VK->Prop:=fun x vs H Q=>∃d kvs,x=.ref d/\vs=[]/\Rd H d (.dT kvs)/\∀v,H v=none->Q (.ref v) (upd H v (pk v d))
def gD:jT X "dict.values" zkk:=by
 intro aa s σ H x vs v us Q I e f h;obtain⟨d,kvs,rfl,rfl,hd,q⟩:=h;cases e;obtain rfl:=f.zero;obtain⟨z,hs,ys,g,o,es,ep,h1,h2,l,h4,r⟩:=(show zA X.prog X.w H s.heap d (.dT kvs) from hd.ok I.hok);have a:s.TypeIs (.ref d) "dict":=⟨o,h1,h2.1⟩;have j:MeetsIn X.prog X.w (Builtin.«dict.values» ⟨[.ref d],[]⟩) (fun _ R s=>s.TypeIs (.ref d) "dict"/\R (.ok (.ret (.ref s⁻¹))) {s with heap:=s.heap.push {cls:=.type "dict_values",data:=.fields #[.ref d]}}):=
  .of_wp fun A R s ⟨a,h⟩=>by
   refine Aa ?_;unfold Builtin.Dict.noArgs;refine Aa (wpAny_notOrdered_dict a ?_);show wpAny _ _ (pure d) _ _ s;refine Ac ?_;show wpAny _ _ (Builtin.Dict.showsAll d >>= _) _ _ s;unfold Builtin.Dict.showsAll;rw[if_neg (by rw[hs];exact As)];refine Aa (Ac ?_);exact Aa (AS (Ac ⟨_,rfl,h⟩))
 refine call_meetsIn PySem.F.slot_dict_values a PySem.F.entry_dict_values (PySem.F.args_dict_values_1 _) j ⟨a,?_⟩;refine⟨.ref s⁻¹,_,I.laid (t':=s.toks) (o:=pk s⁻¹ d) (fun b ob q=>Ad _ q) (Ag _) ?_,rfl,q _ (I.hok.fresh (Ag _))⟩;refine⟨⟨_,Ax _ rfl,rfl,rfl⟩,⟨_,Ax _ rfl⟩,fun h1 h2 p k=>?_⟩;obtain⟨o,i,c⟩:=p;exact⟨o,k o i,c⟩
def wH(d:Addr)(o:Obj)(kvs:List (List Key×V)):It:=⟨fun i H=>i<kvs.length/\H d=some (.frz o (.dT kvs)),fun i H v H'=>H'=H/\∃a,kvs[i]?=some a/\v=a.2,fun i H=>i=kvs.length/\H d=some (.frz o (.dT kvs))⟩
def GS{P:Program}{w:World}{K:Ae}{tg:Expr}(d it:Addr){o:Obj}{kvs:List (List Key×V)}{es:Array DictEntry}{ep:Nat}(hx:o.ExactDict)(r:o.data=.dict es ep)(hsz:es.size=kvs.length)(hk:∀(i:Nat)kv(hi:i<es.size),kvs[i]?=some kv->RelV kv.2 es[i].val):Turn P w K tg (wH d o kvs) [it] it (fun i h=>h.IsValIter it d i es.size ep) where
 mem:=by simp
 obj:=fun i h st b hb=>by
  have e:b=it:=by simpa using hb
  subst e;obtain⟨o,e,c,dd⟩:=st;exact⟨o,e,fun v z=>by rw[dd] at z;cases z⟩
 keep:=fun i h h' st k=>by
  obtain⟨o,e,c⟩:=st;exact⟨o,k it (by simp) o e,c⟩
 item:=by
  intro X f hw g hc i aa s σ H E I hf st j;subst f hw g;obtain⟨f0,f1,f2,f3,f4,f5⟩:=hf it (by simp);obtain⟨hi,l⟩:=j;have hm:Dk.IsD s.heap d es ep:=⟨o,(show zA X.prog X.w H s.heap d (.frz o (.dT kvs)) from I.hok d _ l).1,hx,r⟩;have a:i<es.size:=by rw[hsz];exact hi
  refine Dk.mv st hm a fun h' p u=>?_;have y:Inv X aa σ H {s with heap:=h'}:=I.turned (t':=s.toks) (fun b o hb e=>(u.2 b hb).trans e) f0 f1 f3 f4 f5;obtain⟨C,e1,e2,e3⟩:=id p;have q:kvs[i]?=some kvs[i]:=Af hi;exact⟨_,rfl,lg (s:={s with heap:=h'}) e1 e2 e3 ξ ⟨kvs[i].2,H,y,hk i _ a q,⟨rfl,_,q,rfl⟩,p,fun b hb=>(hf b hb).1⟩⟩
 done:=by
  intro X f hw g hc i aa s σ H E I hf st j;subst f hw g;obtain⟨f0,f1,f2,f3,f4,f5⟩:=hf it (by simp);obtain⟨hi,l⟩:=j;have hm:Dk.IsD s.heap d es ep:=⟨o,(show zA X.prog X.w H s.heap d (.frz o (.dT kvs)) from I.hok d _ l).1,hx,r⟩;have a:i=es.size:=by rw[hsz];exact hi
  subst a;exact Dk.mw (I.ok.hd hc) st hm fun h' x=>⟨rfl,I.turned (t':=s.toks) (fun b o hb e=>x b o hb e) f0 f1 f3 f4 f5⟩
 self:=fun A i s Q E st h=>wpAny_pyIter_valiter st h
def GT(te:TE):TI:=fun σ H R=>te σ H fun x H1=>∃v d kvs,x=.ref v/\H1 v=some (pk v d)/\Rd H1 d (.dT kvs)/\∀o H2,H2 d=some (.frz o (.dT kvs))->(∀b,b≠d->H2 b=H1 b)->R (wH d o kvs) H2
def BU{H:Hp}:∀{l:List (List Key×V)}{m:List (List Key×Addr×Value)}{i:Nat}{a:List Key×V},KT H l m->l[i]?=some a->∃w,m[i]?=some w/\a.1=w.1/\RelV a.2 w.2.2
 |_,_,0,_,.cons h _,e=>by cases e;exact⟨_,rfl,h.1,h.2.2⟩
 |_,_,i+1,_,.cons _ t,e=>BU (i:=i) t (by simpa using e)
def GU{tg l:Expr}{tl:TE}(J:PE X l tl):PI X tg l (GT tl):=by
 intro aa s σ H R I h;refine aR (J aa s σ H _ I h) fun v a ⟨x,H1,I1,r,u⟩=>?_;obtain⟨v,d,kvs,e,D,hd,q⟩:=u;subst e;cases r;have G:a.heap.IsValuesView v d:=(show zA X.prog X.w H1 a.heap v (pk v d) from I1.hok v _ D).1;have go:∀(o:Obj)(H2:Hp),Inv X aa σ H2 a->H2 d=some (.frz o (.dT kvs))->(∀b,b≠d->H2 b=H1 b)->wpAny (model X.prog X.w) X.A (pyIter (.ref v)) (sN X aa σ tg R) X.xe a:=by
  intro o H2 I2 j y;obtain⟨E,z,hs,ys,c,o',es,ep,h1,h2,f,h4,p⟩:=(show zA X.prog X.w H2 a.heap d (.frz o (.dT kvs)) from I2.hok d _ j);obtain rfl:o=o':=Ai (E.symm.trans h1);have hsz:es.size=kvs.length:=by
   have:=congrArg List.length h4;rw[Ab,<-Paired.length c] at this
   simpa using this
  have hm:Dk.IsD a.heap d es ep:=⟨o,h1,h2,f⟩;refine Dk.mu G hm ?_;have hfr:H2 a⁻¹=none:=I2.hok.fresh (Ag _);refine⟨a⁻¹,[a⁻¹],_,_,_,rfl,I2.kept (t':=a.toks) fun b o e=>Ad _ e,GS d _ h2 f hsz (fun i L hi e=>?_),⟨_,Ax _ rfl,rfl,rfl⟩,fun b hb=>?_,q o H2 j y⟩
  ·obtain⟨M,F,g1,g2⟩:=BU c e
   have g3:es.toList[i]?=some es[i]:=by simp[hi]
   rw[h4,Ao,F] at g3;simp only[A7,Option.some.injEq] at g3;rw[<-g3];exact g2
  ·have e:b=a⁻¹:=by simpa using hb
   subst e;exact I2.fpOk (Ag _) hfr
 rcases hd with hd|⟨o,hd⟩
 ·obtain⟨z,hs,ys,c,o,es,ep,h1,h2,f,h4,p⟩:=(show zA X.prog X.w H1 a.heap d (.dT kvs) from I1.hok d _ hd)
  have g:KT (upd H1 d (.frz o (.dT kvs))) kvs ys:=KT.keeps c fun b zs e=>by rw[zh (fun C=>by rw[C,hd] at e;cases e)];exact e
  exact go o (upd H1 d (.frz o (.dT kvs))) (uH (ob:=.frz o (.dT kvs)) (t':=a.toks) I1 (by rw[hd];exact True.intro) (Heap.SameBut.refl _ _) ⟨o,h1⟩ ⟨h1,z,hs,ys,g,o,es,ep,h1,h2,f,h4,p⟩) al fun b hb=>zh hb
 ·exact go o H1 I1 hd fun _ _=>rfl
end
end L2
end
section
namespace DCp
open PySem
def GV:isSubtype (.type "dict") (.type "dict")=pure true:=by rw[isSubtype_type];kernel_rfl
end DCp
end
section
set_option maxHeartbeats 3200000
namespace STb
open PySem PySem.SetTable PyProof.Rows
def BV{c:Type}(next:Nat->Nat):∀(fuel k:Nat)(left:List c)(b:Array c),left.length=fuel->∃l,l.Perm left/\(pickOrder.go next fuel k left b).toList=b.toList++l
 |0,k,left,b,h=>⟨[],by rw[List.eq_nil_of_length_eq_zero h],by simp[pickOrder.go]⟩
 |fuel+1,k,left,b,h=>by
  have a:next k%left.length<left.length:=Nat.mod_lt _ ω;unfold pickOrder.go;rw[Af a];dsimp only;obtain⟨l,d,e⟩:=BV next fuel (k+1) (left.eraseIdx (next k%left.length)) (b.push left[next k%left.length]) (by rw[List.length_eraseIdx,if_pos a];omega);refine⟨left[next k%left.length]::l,?_,?_⟩
  ·refine(List.Perm.cons _ d).trans ?_
   rw[List.eraseIdx_eq_take_drop_succ];refine(List.perm_middle (l₁:=left.take (next k%left.length))).symm.trans ?_;rw[<-List.drop_eq_getElem_cons a,List.take_append_drop]
  ·rw[e,Array.toList_push,List.append_assoc]
   rfl
def GW{b:Type}(next:Nat->Nat)(xs:Array b):(pickOrder next xs).toList.Perm xs.toList:=by
 obtain⟨l,a,e⟩:=BV next xs.size 0 xs.toList #[] (by simp);unfold pickOrder;rw[e]
 simpa using a
section
variable{prog:Program}{w:World}{K:Type}[DecidableEq K]{knd:KeyKind prog w K}{A:Around}{E:Ω}{s:Shared}
def GX{B:List Addr}{S:Addr}{o:Obj}{es:Array (Int×Value)}{ep:Nat}{t:SetTable}{ks:List (List K)}(X:TS knd s.heap S o es ep t ks B)(hu:A.units<cLine){k:List K}{b:Addr}(hk:AH knd s.heap k b){Q:Option Nat->Shared->Prop}(h:∀r:Option Nat,r.isSome=decide (k∈ks)->Q r s):wpAny (model prog w) A (setFind S (.ref b) (Aw knd k)) Q E s:=by
 have T:=X.tb;have j:=fits_of T;unfold setFind setFindIn;refine Aa (Bb X.at_ X.dt j ?_);dsimp only;have l:byScan (.ref b) es=false:=rfl;rw[l];simp only[An,if_false];obtain⟨ne,d,he,hm⟩:=Bo T (Aw knd k);refine Aa ?_;unfold setSearch;refine Br X hu hk d he hm (fun e r hr=>?_) (fun g=>?_) 100000 0 none ?_ (AT _) rfl (fun m i c f=>absurd f (Nat.not_lt_zero _))
 ·exact Ac (h r (by rw[hr rfl,decide_eq_true e]))
 ·exact Ac (h none (by rw[decide_eq_false g];rfl))
 ·have:t.mask<=255:=by rcases X.msk with ⟨a,_⟩|⟨a,_⟩|⟨a,_⟩|⟨a,_⟩|⟨a,_⟩|⟨a,_⟩<;>omega
  unfold turns at d;omega
def wI{Q:Bool->Shared->Prop}(h:Q (w.params.followText "set-order") s):wpAny (model prog w) A setsByText Q E s:=by
 unfold setsByText;exact Aa (wpAny_askSetting (Ac h))
def wp_walk{B:List Addr}{S:Addr}{o:Obj}{es:Array (Int×Value)}{ep:Nat}{t:SetTable}{ks:List (List K)}(X:TS knd s.heap S o es ep t ks B){Q:Array (Int×Value)->Shared->Prop}(h:∀r:Array (Int×Value),r.toList.Perm es.toList->Q r s):wpAny (model prog w) A (setWalk S) Q E s:=by
 have a:=fits_of X.tb;unfold setWalk;refine Aa (Bb X.at_ X.dt a ?_);dsimp only;refine Aa (wI ?_);cases hb:w.params.followText "set-order" with
 |true=>
  simp only[if_true];exact Aa (wpAny_askSetting (Ac (h _ (GW _ es))))
 |false=>
  have hw:t.led=true/\t.plain=true:=X.wk.resolve_left (by rw[hb];simp);simp only[An,if_false];show wpAny _ _ (ite ((!t.plain&&decide (es.size>1))=true) _ _) _ _ _;rw[hw.2];simp only[Bool.not_true,A9,An,if_false];show wpAny _ _ ((ite ((!t.led&&decide (es.size>1))=true) _ _) >>= _) _ _ _;rw[hw.1];simp only[Bool.not_true,A9,An,if_false];exact Aa (Ac (Ac (h es (List.Perm.refl _))))
def GY{B:List Addr}{S:Addr}{o:Obj}{es:Array (Int×Value)}{ep:Nat}{t:SetTable}{ks:List (List K)}(X:TS knd s.heap S o es ep t ks B){b:List Addr}{d:Option Addr}{Q:Array (Int×Value)->Shared->Prop}(h:∀r:Array (Int×Value),r.toList.Perm es.toList->Q r s):wpAny (model prog w) A (setWalkUnseen S b d) Q E s:=by
 have a:=fits_of X.tb;unfold setWalkUnseen;refine Aa (Bb X.at_ X.dt a ?_);dsimp only;refine Aa (wI ?_);have c:(w.params.followText "set-order" || (t.led&&t.plain)|| decide (es.size<=1))=true:=by
  rcases X.wk with e|⟨e1,e2⟩
  ·rw[e];rfl
  ·rw[e1,e2];simp
 rw[if_pos c];exact wp_walk X h
def BW{B:List Addr}{S:Addr}{o:Obj}{es:Array (Int×Value)}{ep:Nat}{t:SetTable}{ks:List (List K)}(X:TS knd s.heap S o es ep t ks B){Q:Nat->Shared->Prop}(h:Q ep s):wpAny (model prog w) A (setEpoch S) Q E s:=by
 unfold setEpoch;exact Aa (Bb X.at_ X.dt (fits_of X.tb) (Ac h))
def BX{B:List Addr}{S:Addr}{o:Obj}{es:Array (Int×Value)}{ep:Nat}{t:SetTable}{ks:List (List K)}(X:TS knd s.heap S o es ep t ks B){Q:Nat->Shared->Prop}(h:Q ks.length s):wpAny (model prog w) A (Builtin.Frozenset.sizeOf S) Q E s:=by
 unfold Builtin.Frozenset.sizeOf setEntries;refine Aa (Aa (Bb X.at_ X.dt (fits_of X.tb) (Ac (Ac ?_))));rw[X.sz];exact h
def wJ{S:Addr}(a:s.TypeIs (.ref S) "set"){Q:Bool->Shared->Prop}(h:Q true s):wpAny (model prog w) A (Builtin.Frozenset.isAnySet (.ref S)) Q E s:=by
 unfold Builtin.Frozenset.isAnySet orM;refine Aa (wpAny_isInstance a sub_set_self ?_);exact Ac h
def GZ{q Z:List Addr}{S1 S2 R:Addr}{id:String}{i g:List (List K)}{P S:Obj}{T U:Array (Int×Value)}{u W:Nat}{X Y:SetTable}(n1:S1≠R)(n2:S2≠R)(hu:A.units<cLine)(hv:∀k v n,knd.is k v=true->hashByValue n v=pure true)(hz:i.length<60):∀(l:List (Int×Value))(s:Shared)(d:List (List K))(Q:Unit->Shared->Prop),(∀e∈l,∃k b,k∈i/\b∈q/\e=(Aw knd k,Value.ref b)/\AH knd s.heap k b)->TS knd s.heap S1 P T u X i q->TS knd s.heap S2 S U W Y g Z->
   (∃o es ep t,TS knd s.heap R o es ep t d q)->(∀k∈d,k∈i/\k∉g)->
   (∀h' D,(∃o es ep t,TS knd h' R o es ep t D q)->AR R s.heap h'->(∀k∈D,k∈i/\k∉g)->(∀k∈d,k∈D)->(∀e∈l,∀k,e.1=Aw knd k->(∃b,e.2=Value.ref b/\AH knd s.heap k b)->k∉g->k∈D)->Q () {s with heap:=h'})->
   wpAny (model prog w) A (forIn l PUnit.unit fun x _=>do
    holding [x.snd] (do
     let y <-setFind S2 x.snd x.fst
     let there <-pure y.isSome
     if(!there)=true then do
       let _ <-setAddHashed R x.snd x.fst
       pure ()
      else pure ())
    Builtin.Frozenset.unchanged id S1 u
    pure (ForInStep.yield PUnit.unit)) Q E s:=by
 intro l
 induction l with
 |nil=>
  intro s d Q _ _ _ hR hk h;exact Ac (h s.heap d hR (Heap.SameBut.refl ..) hk (fun _ z=>z) (fun e he=>by cases he))
 |cons e l ih=>
  intro s d Q L X1 X2 hR hk h;obtain⟨k,b,tE,iO,rfl,H⟩:=L e (Am);obtain⟨oR,sy,rG,tR,XR⟩:=hR;have jE:d.length<60:=Nat.lt_of_le_of_lt (XR.nd.length_le_of_subset fun x hx=>(hk x hx).1) hz;rw[List.forIn_cons];have O:∀(h1:Heap)(j:List (List K)),(∃o es ep t,TS knd h1 R o es ep t j q)->AR R s.heap h1->(∀k∈j,k∈i/\k∉g)->(∀k∈d,k∈j)->(k∉g->k∈j)->
    ∀J:ForInStep PUnit->Shared->Prop,((wpAny (model prog w) A (forIn l PUnit.unit fun x _=>do
      holding [x.snd] (do
       let y <-setFind S2 x.snd x.fst
       let there <-pure y.isSome
       if(!there)=true then do
         let _ <-setAddHashed R x.snd x.fst
         pure ()
        else pure ())
      Builtin.Frozenset.unchanged id S1 u
      pure (ForInStep.yield PUnit.unit)) Q E {s with heap:=h1})->J (ForInStep.yield PUnit.unit) {s with heap:=h1})->wpAny (model prog w) A (do
     Builtin.Frozenset.unchanged id S1 u
     pure (ForInStep.yield PUnit.unit)) J E {s with heap:=h1}:=by
   intro h1 j rX p mW jA mz J pI;have F:∀c a,AH knd s.heap c a->AH knd h1 c a:=fun c a z=>il z XR.at_ XR.dt p;have C:TS knd h1 S1 P T u X i q:=X1.moved (by rw[p.2 S1 n1];exact X1.at_) F;have mK:TS knd h1 S2 S U W Y g Z:=X2.moved (by rw[p.2 S2 n2];exact X2.at_) F;unfold Builtin.Frozenset.unchanged;refine Aa (Aa (BW (s:={s with heap:=h1}) C ?_));simp only[bne_self_eq_false,An,if_false];refine Ac (Ac (pI ?_));refine ih {s with heap:=h1} j Q (fun G he'=>?_) C mK rX mW fun h2 pS qY du a1 M a3=>h h2 pS qY (p.trans du) a1 (fun x hx=>M x (jA x hx)) fun G he' c e1 e2 N=>?_
   ·obtain⟨c,a,c1,c2,c3,c4⟩:=L G (Av _ he')
    exact⟨c,a,c1,c2,c3,F c a c4⟩
   ·rcases List.mem_cons.mp he' with rfl|he'
    ·obtain⟨a,e3,I⟩:=e2
     obtain rfl:b=a:=by simpa using e3
     obtain rfl:k=c:=IsTupleKey.inj H I;exact M k (mz N)
    ·obtain⟨a,e3,I⟩:=e2
     exact a3 G he' c e1 ⟨a,e3,F c a I⟩ N
  refine Aa (Aa (AU (Aa (GX X2 hu H fun r hr=>Aa (Ac ?_)))));rw[hr]
  by_cases f:k∈g
  ·rw[decide_eq_true f]
   simp only[Bool.not_true,An,if_false];exact Ac (O s.heap d ⟨oR,sy,rG,tR,XR⟩ (Heap.SameBut.refl ..) hk (fun _ z=>z) (fun z=>absurd f z) _ fun z=>z)
  ·rw[decide_eq_false f]
   simp only[Bool.not_false,if_true];refine Aa (wh XR hu hv H iO jE fun r' h' o' bB cf t' qq p=>Ac ?_);refine O h' _ ⟨o',bB,cf,t',qq⟩ p (fun x hx=>?_) (fun x hx=>?_) (fun _=>?_) _ fun z=>z
   ·split at hx
    ·exact hk x hx
    ·rcases List.mem_append.mp hx with hx|hx
     ·exact hk x hx
     ·rw[List.mem_singleton.mp hx];exact⟨tE,f⟩
   ·split
    ·exact hx
    ·exact List.mem_append_left _ hx
   ·split
    ·assumption
    ·exact AI _ (List.mem_singleton.mpr rfl)
def G0{j Z:List Addr}{S1 S2:Addr}{id:String}{d i:List (List K)}{q u:Obj}{N O:Array (Int×Value)}{P S:Nat}{T U:SetTable}(X1:TS knd s.heap S1 q N P T d j)(X2:TS knd s.heap S2 u O S U i Z)(hu:A.units<cLine)(W:∀k v n,knd.is k v=true->hashByValue n v=pure true)(X:d.length<60)(hq:¬d.length / 4>i.length){Q:Ω}(h:∀h' a,(∃o es ep t,TS knd h' s⁻¹ o es ep t a j)->(∀b o,b<s⁻¹->s.heap.get? b=some o->h'.get? b=some o)->(∀k,k∈a↔k∈d/\k∉i)->Q (.ref s⁻¹) {s with heap:=h'}):wpAny (model prog w) A (Builtin.Frozenset.difference id S1 (.ref S2)) Q E s:=by
 have g:s.TypeIs (.ref S1) "set":=⟨q,X1.at_,X1.ex.1⟩;have I:s.TypeIs (.ref S2) "set":=⟨u,X2.at_,X2.ex.1⟩;unfold Builtin.Frozenset.difference;dsimp only;refine Aa (wJ I ?_);simp only[Bool.not_true,An,if_false];refine Aa (Ac ?_);simp only[A9,An,if_false,if_true];refine Aa (BX X2 (Aa (BX X1 ?_)));rw[if_neg hq];unfold Builtin.Frozenset.baseOf;refine Aa (Aa (wpAny_isInstance g sub_set_self (Ac ?_)));simp only[if_true];unfold newSet;refine Aa (Aa (wI ?_));dsimp only;simp only[newObj];rw[if_neg (by simp)];unfold newObjAsIs;refine Aa (wpAny_alloc ?_);refine Ac ?_;refine Aa (Ac ?_);have J:S1<s⁻¹:=Ah X1.at_;have L:S2<s⁻¹:=Ah X2.at_;obtain⟨led,l⟩:∃led:Bool,led=!w.params.followText "set-order":=⟨_,rfl⟩;rw[<-l];have keep:∀b o,s.heap.get? b=some o->(s.heap.push {cls:=.type "set",dict:=none,data:=.set #[] 0 (.fresh 0 0 led)}).get? b=some o:=fun b o e=>Ad _ e;have X1':=X1.moved (keep _ _ X1.at_) fun k b z=>jo z fun o e=>keep b o e;have M:=X2.moved (keep _ _ X2.at_) fun k b z=>jo z fun o e=>keep b o e;have Y:TS knd (s.heap.push {cls:=.type "set",dict:=none,data:=.set #[] 0 (.fresh 0 0 led)}) s⁻¹ {cls:=.type "set",dict:=none,data:=.set #[] 0 (.fresh 0 0 led)} #[] 0 (.fresh 0 0 led) ([]:List (List K)) j:=
  ⟨Ax _ rfl,⟨rfl,rfl,rfl⟩,rfl,(by simpa using v' 0 0 led),rfl,List.nodup_nil,(fun e he=>by simp at he),(fun k hk=>by cases hk),.inl ⟨rfl,AT _⟩,(fun e he=>by simp at he),by
   rw[l];cases w.params.followText "set-order" <;> simp[SetTable.fresh]⟩
 refine Aa (BW (s:={s with heap:=s.heap.push {cls:=.type "set",dict:=none,data:=.set #[] 0 (.fresh 0 0 led)}}) X1' ?_);refine Aa (AU ?_);refine Aa (GY (s:={s with heap:=s.heap.push {cls:=.type "set",dict:=none,data:=.set #[] 0 (.fresh 0 0 led)}}) X1' fun r hr=>?_);rw[<-Array.forIn_toList];refine Aa ?_;refine GZ (s:={s with heap:=s.heap.push {cls:=.type "set",dict:=none,data:=.set #[] 0 (.fresh 0 0 led)}}) (Ar J) (Ar L) hu W X r.toList [] _ (fun e he=>?_) X1' M ⟨_,_,_,_,Y⟩ (fun k hk=>by cases hk) fun h' a hR x y _ C=>?_
 ·obtain⟨k,b,f,c,F⟩:=X1'.el e (hr.mem_iff.mp he)
  obtain⟨G,H,p⟩:=X1'.ad e (hr.mem_iff.mp he);rw[c] at p;obtain rfl:b=G:=by simpa using p
  exact⟨k,b,f,H,c,F⟩
 ·refine Ac (Ac (h h' a hR (fun b o hb e=>?_) fun k=>⟨y k,fun⟨D,z2⟩=>?_⟩))
  ·rw[x.2 b (Ar hb)]
   exact keep b o e
  ·obtain⟨b,f,c⟩:=X1'.ke k D
   exact C _ (hr.mem_iff.mpr f) k rfl ⟨b,rfl,c⟩ z2
end
end STb
end
section
set_option maxHeartbeats 3200000
namespace STb
open PySem PySem.SetTable PyProof.Rows
def G1:entryFor table "set.__sub__"=some Builtin.«frozenset.__sub__»:=
 entryFor_alias (id':="frozenset.__sub__") (by kernel_rfl) rfl δ (by kernel_rfl)
section
variable{prog:Program}{w:World}{K:Type}[DecidableEq K]{knd:KeyKind prog w K}{A:Around}{E:Ω}{s:Shared}
def G2{j C:List Addr}{S1 S2:Addr}{d e:List (List K)}{g i:Obj}{l p:Array (Int×Value)}{q r:Nat}{u x:SetTable}(X1:TS knd s.heap S1 g l q u d j)(X2:TS knd s.heap S2 i p r x e C)(hu:A.units+64<cLine)(y:∀k v n,knd.is k v=true->hashByValue n v=pure true)(z:d.length<60)(hq:¬d.length / 4>e.length){Q:Ω}(h:∀h' c,(∃o es ep t,TS knd h' s⁻¹ o es ep t c j)->(∀b o,b<s⁻¹->s.heap.get? b=some o->h'.get? b=some o)->(∀k,k∈c↔k∈d/\k∉e)->Q (.ref s⁻¹) {s with heap:=h'}):wpAny (model prog w) A (binaryOp .Sub (.ref S1) (.ref S2)) Q E s:=by
 have a:s.TypeIs (.ref S1) "set":=⟨g,X1.at_,X1.ex.1⟩;have f:s.TypeIs (.ref S2) "set":=⟨i,X2.at_,X2.ex.1⟩;refine wpAny_binaryOp_same (op:=.Sub) (T:="set") a f PySem.F.fills_set_sub PySem.F.slot_set_sub ?_;refine A3 PySem.F.slot_set_sub a G1 ?_ (PySem.F.args_set_sub_2 _ _);unfold Builtin.«frozenset.__sub__»
 wp_delta
 refine Aa (show wpAny (model prog w) A.in1 (pure (Value.ref S1,Value.ref S2)) _ _ _ from Ac ?_);dsimp only;simp only[An,if_false];unfold andM;refine Aa (Aa (wJ a ?_));refine wJ f ?_;simp only[Bool.not_true,An,if_false];unfold Builtin.Frozenset.addrOf;refine Aa (Ac (Aa (G0 X1 X2 (by show A.units+1<cLine;omega) y z hq fun h' c hR hk hm=>?_)));exact Ac ⟨_,rfl,by simp,h h' c hR hk hm⟩
end
end STb
end
section
set_option maxHeartbeats 3200000
namespace STb
open PySem PySem.SetTable PyProof.Rows
def G3:∀n,n<60->5<=n->(sizeAbove (n*2)<=sizeLine)/\(sizeAbove (n*2)-1=15\/sizeAbove (n*2)-1=31\/sizeAbove (n*2)-1=63\/sizeAbove (n*2)-1=127):=δ
section
variable{prog:Program}{w:World}{K:Type}[DecidableEq K]{knd:KeyKind prog w K}{A:Around}{E:Ω}{s:Shared}
def G4{B:List Addr}{S:Addr}{o:Obj}{es:Array (Int×Value)}{ep:Nat}{t:SetTable}(X:TS knd s.heap S o es ep t ([]:List (List K)) B)(hm:t.mask=7){n:Nat}(r:n<60){Q:Unit->Shared->Prop}(h:∀h' o' g i t',TS knd h' S o' g i t' ([]:List (List K)) B->AR S s.heap h'->Q () {s with heap:=h'}):wpAny (model prog w) A (setRoomFor S n) Q E s:=by
 have T:=X.tb;have l:=fits_of T;have p:es.size=0:=X.sz;have b:t.place.size=0:=by rw[T.size,Array.size_map];exact p
 have f0:t.fill=0:=by unfold SetTable.fill;rw[T.dum,b];rfl
 unfold setRoomFor;refine Aa (Bb X.at_ X.dt l ?_);dsimp only;unfold SetTable.roomFor;rw[f0,b,hm,Nat.zero_add]
 by_cases q:n*5 ≥ 7*3
 ·rw[if_pos q]
  dsimp only;obtain⟨j,z2⟩:=G3 n r ω;have go:∀a,sizeAbove (n*2)-1=a->eE a->a%2=1->((a=7/\es.size<=4)\/(a=31/\es.size<=18)\/(a=127/\es.size<=76)\/(a=15/\es.size<=8)\/(a=63/\es.size<=37)\/(a=255/\es.size<=152))->
    wpAny (model prog w) A (setRelay S (n*2)) Q E s:=fun a c d e f=>
   Bv X.at_ X.ex X.dt T X.sz X.nd X.ad X.el X.ke c j d e ω ω f X.wk h
  rcases z2 with z|z|z|z
  ·exact go 15 z me rfl ω
  ·exact go 31 z iK rfl ω
  ·exact go 63 z iL rfl ω
  ·exact go 127 z gk rfl ω
 ·rw[if_neg q]
  exact Ac (h s.heap o es ep t X (Heap.SameBut.refl ..))
end
end STb
end
section
set_option maxHeartbeats 3200000
namespace STb
open PySem PySem.SetTable PyProof.Rows
section
variable{prog:Program}{w:World}{K:Type}[DecidableEq K]{knd:KeyKind prog w K}{A:Around}{E:Ω}{s:Shared}
def G5{B:List Addr}{S d:Addr}{id:String}{o l:Obj}{es:Array (Int×Value)}{a:Array DictEntry}{lD ep:Nat}{t:SetTable}(X:TS knd s.heap S o es ep t ([]:List (List K)) B)(hm:t.mask=7)(u:s.heap.get? d=some l)(kN:l.cls=.type "dict")(D:l.data=.dict a lD)(fH:(d==sysModules)=false)(p:d≠S)(hu:A.units<cLine)(hv:∀k v n,knd.is k v=true->hashByValue n v=pure true){vals:List (List K)}{adr:Nat->Addr}(hn:vals.length=a.size)(hz:a.size<=59)(hB:∀i,i<a.size->adr i∈B)(aG:∀(i:Nat) e x,a[i]?=some e->vals[i]?=some x->e.key=.ref (adr i)/\e.hash=Aw knd x)(hT:∀(j:Nat) x,vals[j]?=some x->AH knd s.heap x (adr j)){Q:Unit->Shared->Prop}(h:∀h',(∃o es ep t,TS knd h' S o es ep t (dd vals) B)->AR S s.heap h'->Q () {s with heap:=h'}):wpAny (model prog w) A (Builtin.Frozenset.updateFrom id S (.ref d)) Q E s:=by
 have f:s.TypeIs (.ref d) "dict":=⟨l,u,kN⟩;unfold Builtin.Frozenset.updateFrom Builtin.Frozenset.isAnySet orM;refine Aa (Aa (wpAny_isInstance f F.sub_dict_set ?_));refine wpAny_isInstance f F.sub_dict_frozenset ?_;simp only[An,if_false];refine Aa (wpAny_typeOf f ?_);rw[if_pos ξ];refine Aa (wpAny_rule ?_);unfold Builtin.Frozenset.addrOf;refine Aa (Ac ?_);rw[if_neg (by rw[fH];exact As)];refine Aa (wpAny_dictEpoch u D ?_);refine Aa (AY u D ?_);refine Aa (G4 X hm ω fun h1 U W Y Z X1 J=>?_);have lz:h1.get? d=some l:=by rw[J.2 d p];exact u
 refine Aa (AY (s:={s with heap:=h1}) lz D ?_);refine Aa ?_;rw[Std.Legacy.Range.forIn_eq_forIn_range'];simp only[Std.Legacy.Range.size,Nat.sub_zero,Nat.add_sub_cancel,Nat.div_one];refine wpAny_forIn_list _
  (fun rest _ s'=>∃h' i,s'={s with heap:=h'}/\rest=List.range' i (a.size-i)/\i<=a.size/\(∃o es ep t,TS knd h' S o es ep t (dd (vals.take i)) B)/\AR S s.heap h')
  _ ?_ ?_ _ _ ⟨h1,0,rfl,by simp,AT _,⟨U,W,Y,Z,by simpa[dd] using X1⟩,J⟩
 ·rintro x rest b s' ⟨h',i,rfl,hr,hi,⟨o',bB,cf,t',X'⟩,z⟩
  have c:i<a.size:=by
   rcases Nat.lt_or_ge i a.size with h|h
   ·exact h
   ·rw[Nat.sub_eq_zero_of_le h] at hr;simp at hr
  obtain⟨rfl,cy⟩:x=i/\rest=List.range' (i+1) (a.size-(i+1)):=by
   have e:a.size-i=(a.size-(i+1))+1:=ω
   rw[e,List.range'_succ] at hr;injection hr with h1 h2
   exact⟨h1,h2⟩
  have H:h'.get? d=some l:=by rw[z.2 d p];exact u
  refine Aa (AY (s:={s with heap:=h'}) H D ?_);rw[Array.getElem?_eq_getElem c];have hx:vals[x]?=some vals[x]:=Af ω;obtain⟨q1,q2⟩:=aG x a[x] _ (by simp[c]) hx;show wpAny _ _ (holding [a[x].key] (setAddHashed S a[x].key a[x].hash) >>= _) _ _ _;rw[q1,q2];have C:=gl (vals.take x);rw[AV] at C;refine Aa (AU (wh X' hu hv (il (hT x _ hx) X.at_ X.dt z) (hB x c) ω fun r y L M N O G cj=>?_));have T:AR S s.heap y:=z.trans cj;have lK:y.get? d=some l:=by rw[T.2 d p];exact u
  refine Aa (wpAny_dictEpoch (s:={s with heap:=y}) lK D ?_);rw[if_neg (by simp)];have g:vals.take (x+1)=vals.take x++[vals[x]]:=by rw[List.take_add_one,hx];rfl
  have X3:TS knd y S L M N O (dd (vals.take (x+1))) B:=by
   rw[g,iq]
   by_cases q:vals[x]∈dd (vals.take x)
   ·rw[if_pos q] at G ⊢;exact G
   ·rw[if_neg q] at G ⊢;exact G
  exact Ac ⟨y,x+1,rfl,cy,c,⟨L,M,N,O,X3⟩,T⟩
 ·rintro b s' ⟨h',i,rfl,hr,hi,P,z⟩
  have I:i=a.size:=by
   have e:=congrArg List.length hr;simp at e;omega
  subst I;rw[AD ω] at P;exact Ac (h h' P z)
end
end STb
end
section
namespace STb
open PySem PySem.SetTable PyProof.Rows
section
variable{prog:Program}{w:World}{K:Type}[DecidableEq K]{knd:KeyKind prog w K}{A:Around}{E:Ω}{s:Shared}
def G6{B:List Addr}{d:Addr}{g:Obj}{a:Array DictEntry}{L:Nat}{vals:List (List K)}{adr:Nat->Addr}{Q:Ω}(u:s.heap.get? d=some g)(M:g.cls=.type "dict")(N:g.data=.dict a L)(O:(d==sysModules)=false)(hu:A.units+64<cLine)(P:∀k v n,knd.is k v=true->hashByValue n v=pure true)(S:a.size<=59)(T:vals.length=a.size)(U:∀i,i<a.size->adr i∈B)(W:∀(i:Nat) e x,a[i]?=some e->vals[i]?=some x->e.key=.ref (adr i)/\e.hash=Aw knd x)(X:∀(j:Nat) x,vals[j]?=some x->AH knd s.heap x (adr j))(h:∀h' tk,(∃o es ep t,TS knd h' s⁻¹ o es ep t (dd vals) B)->(∀b o,b<s⁻¹->s.heap.get? b=some o->h'.get? b=some o)->Q (.ref s⁻¹) {s with heap:=h',toks:=tk}):wpAny (model prog w) A (call (.type "set") [.ref d]) Q E s:=by
 obtain⟨c,tl,Z⟩:=F.called_set.mro;have iN:=F.called_set.made;have br:=F.called_set.sub;refine wpAny_call (codeAny_of_tree ?_);show wpAny _ _ (callAny (.type "set") _) _ _ _;refine Ac ⟨Code.quiet_builtin _ δ,codeAny_builtin F.entry_type_call ?_⟩;rw[Around.under_plain (weight_type_call_type "set" [.ref d] []) rfl];have h1:=F.called_set.notType;have h2:=F.called_set.canCreate;have qh:=F.typeCall_set_1 (.ref d)
 repeat(any_goals(first|assumption|wp_step))
 refine codeAny_mono (Bw (.ref d) (E:=E) (Q₁:=fun obj l=>∃led:Bool,(w.params.followText "set-order"=true\/led=true)/\obj=.ref s⁻¹/\l={s with heap:=s.heap.push {cls:=.type "set",dict:=none,data:=.set #[] 0 (.fresh 0 0 led)}}) ⟨_,by cases w.params.followText "set-order" <;> simp,rfl,rfl⟩) fun r l hr=>?_;cases r with
 |error e=>exact hr
 |ok fl=>
  cases fl with
  |ret obj=>
   obtain⟨led,G,rfl,rfl⟩:=hr;have q:(s.heap.push {cls:=.type "set",dict:=none,data:=.set #[] 0 (.fresh 0 0 led)}).get? s⁻¹=some {cls:=.type "set",dict:=none,data:=.set #[] 0 (.fresh 0 0 led)}:=Ax _ rfl;have I:Shared.TypeIs {s with heap:=s.heap.push {cls:=.type "set",dict:=none,data:=.set #[] 0 (.fresh 0 0 led)}} (.ref s⁻¹) "set":=⟨_,q,rfl⟩;have ss:=F.called_set.init.lookup;have ui:=F.called_set.init.bind (.ref s⁻¹)
   repeat(any_goals(first|assumption|wp_step))
   refine codeAny_mono (codeAny_call_builtin (R:=wants (fun r p=>r=.none/\∃h' tk,p={s with heap:=h',toks:=tk}/\
     (∃o es ep t,TS knd h' s⁻¹ o es ep t (dd vals) B)/\
     (∀b o,b<s⁻¹->s.heap.get? b=some o->h'.get? b=some o)) E) F.called_set.init.plain F.entry_set_init (check_set_init_1 I ?_)) fun y p f=>?_
   ·have J:d<s⁻¹:=Ah u
    have Y:TS knd (s.heap.push {cls:=.type "set",dict:=none,data:=.set #[] 0 (.fresh 0 0 led)}) s⁻¹ {cls:=.type "set",dict:=none,data:=.set #[] 0 (.fresh 0 0 led)} #[] 0 (.fresh 0 0 led) ([]:List (List K)) B:=
     ⟨q,⟨rfl,rfl,rfl⟩,rfl,(by simpa using v' 0 0 led),rfl,List.nodup_nil,fun e he=>by simp at he,fun k hk=>by simp at hk,.inl ⟨rfl,AT _⟩,(fun e he=>by simp at he),G.imp id fun z=>⟨z,rfl⟩⟩
    unfold Builtin.«set.__init__» noKeywords;generalize hPI:Builtin.Frozenset.updateFrom=PI
    wp_walk
    subst hPI;refine G5 (s:={s with heap:=s.heap.push {cls:=.type "set",dict:=none,data:=.set #[] 0 (.fresh 0 0 led)}}) Y rfl (Ad _ u) M N O (Ar J) (by show A.units+1+1<cLine;omega) P T S U W
     (fun j x hx=>jo (X j x hx) fun o e=>Ad _ e) fun h' C D=>?_
    show wpAny _ _ (ret Value.none) _ _ _;refine Ac ⟨rfl,h',s.toks,rfl,C,fun b o hb e=>?_⟩;rw[D.2 b (Ar hb)];exact Ad _ e
   ·cases y with
    |error e=>exact f
    |ok fl₂=>
     cases fl₂ with
     |ret r=>
      obtain⟨rfl,h',tk,rfl,H,hk'⟩:=f
      repeat(any_goals(first|assumption|wp_step))
      exact h _ _ H hk'
     |_=>exact f.elim
  |_=>exact hr.elim
end
end STb
end
section
namespace STb
open PySem PySem.SetTable PyProof.Rows
section
variable{prog:Program}{w:World}{K:Type}[DecidableEq K]{knd:KeyKind prog w K}
def TO(knd:KeyKind prog w K)(h:Heap)(S:Addr)(ks:List (List K))(B:List (List K×Addr)):Prop:=
 ∃o es ep t,h.get? S=some o/\o.ExactSet/\o.data=.set es ep t/\Tb t (es.map (·.1))/\es.size=ks.length/\ks.Nodup/\
  (∀e∈es.toList,∃k b,k∈ks/\(k,b)∈B/\e=(Aw knd k,Value.ref b))/\(∀k∈ks,∃b,(k,b)∈B/\(Aw knd k,Value.ref b)∈es.toList)/\
  ((t.mask=7/\es.size<=4)\/(t.mask=31/\es.size<=18)\/(t.mask=127/\es.size<=76)\/(t.mask=15/\es.size<=8)\/(t.mask=63/\es.size<=37)\/(t.mask=255/\es.size<=152))/\
  (w.params.followText "set-order"=true\/(t.led=true/\t.plain=true))
def TO.keep{h h':Heap}{S:Addr}{ks:List (List K)}{B:List (List K×Addr)}(x:TO knd h S ks B)(k:∀o,h.get? S=some o->h'.get? S=some o):TO knd h' S ks B:=
 let ⟨o,es,ep,t,h1,r⟩:=x;⟨o,es,ep,t,k o h1,r⟩
def TO.of{h:Heap}{S:Addr}{ks:List (List K)}{B:List (List K×Addr)}(x:∃o es ep t,TS knd h S o es ep t ks (B.map (·.2)))(j:∀p∈B,AH knd h p.1 p.2):TO knd h S ks B:=by
 obtain⟨o,es,ep,t,X⟩:=x;have a:∀e∈es.toList,∀k b,e=(Aw knd k,Value.ref b)->AH knd h k b->(k,b)∈B:=fun e he k b e1 e2=>by
  obtain⟨g,f,e3⟩:=X.ad e he;rw[e1] at e3;obtain rfl:b=g:=by simpa using e3
  obtain⟨p,hp,rfl⟩:=List.mem_map.mp f;obtain rfl:=e2.inj (j p hp);exact hp
 refine⟨o,es,ep,t,X.at_,X.ex,X.dt,X.tb,X.sz,X.nd,fun e he=>?_,fun k hk=>?_,X.msk,X.wk⟩
 ·obtain⟨k,b,c,d,i⟩:=X.el e he
  exact⟨k,b,c,a e he k b d i,d⟩
 ·obtain⟨b,c,d⟩:=X.ke k hk
  exact⟨b,a _ c k b rfl d,c⟩
def TO.ts{h:Heap}{S:Addr}{ks:List (List K)}{B:List (List K×Addr)}(x:TO knd h S ks B)(i:∀p∈B,AH knd h p.1 p.2):∃o es ep t,TS knd h S o es ep t ks (B.map (·.2)):=by
 obtain⟨o,es,ep,t,h1,h2,j,h4,l,q,g,r,s,d⟩:=x;refine⟨o,es,ep,t,h1,h2,j,h4,l,q,fun e he=>?_,fun k hk=>?_,s,fun e he=>?_,d⟩
 ·obtain⟨k,b,c,a,f⟩:=g e he
  exact⟨k,b,c,f,i _ a⟩
 ·obtain⟨b,c,a⟩:=r k hk
  exact⟨b,a,i _ c⟩
 ·obtain⟨k,b,c,a,f⟩:=g e he
  exact⟨b,List.mem_map.mpr ⟨_,a,rfl⟩,by rw[f]⟩
end
end STb
namespace L2
open PySem PySem.Spec PyProof.Rows
def b7(P:Program)(w:World)(D:Addr)(ks:Ξ)(B:List (List Int×Addr)):HO:=.ext fun h=>STb.TO (intKind P w) h D ks B
def TB(H:Hp)(B:List (List Int×Addr)):Prop:=∀p∈B,Tp H p.2 p.1
def TB.mono{H H':Hp}{B:List (List Int×Addr)}(h:TB H B)(e:Same H H'):TB H' B:=fun p hp=>e.tp (h p hp)
def TB.zip{H:Hp}{as:List Addr}{a:Ξ}(h:Tps H as a):TB H (a.zip as):=by
 induction h with
 |nil=>intro p hp;simp at hp
 |cons q t ih=>
  intro p hp;rw[List.zip_cons_cons] at hp;rcases List.mem_cons.mp hp with rfl|hp
  ·exact q
  ·exact ih p hp
section
variable{X:Cx}
def TB.keys{aa:Ψ}{s:Shared}{σ:St}{H:Hp}{B:List (List Int×Addr)}(h:TB H B)(I:Inv X aa σ H s):∀p∈B,AH (intKind X.prog X.w) s.heap p.1 p.2:=fun p hp=>by
 obtain⟨b,a,p2,_⟩:=I.tuple (SqT.of (K:=X.K) (h p hp));exact wn p2 (intsAre_of a)
def wK{P:Program}{w:World}{H:Hp}{h:Heap}{D:Addr}{ks:Ξ}{B:List (List Int×Addr)}(x:STb.TO (intKind P w) h D ks B):zA P w H h D (b7 P w D ks B):=
 ⟨x,(let ⟨o,_,_,_,h1,_⟩:=x;⟨o,h1⟩),fun h1 h2 y a=>y.keep fun o e=>a o e⟩
def wL{aa:Ψ}{s:Shared}{σ:St}{H:Hp}{D:Addr}{ks:Ξ}{B:List (List Int×Addr)}(I:Inv X aa σ H s)(e:H D=some (b7 X.prog X.w D ks B)):STb.TO (intKind X.prog X.w) s.heap D ks B:=
 (show zA X.prog X.w H s.heap D (b7 X.prog X.w D ks B) from I.hok D _ e).1
def G7(hc:X.calm=true)(hu:X.A.units+64<cLine):cE X (.type "set") (fun xs H Q=>∃(l:Addr)(as:List Addr)(c:Ξ),xs=[.ref l]/\SqL X.K H l (as.map V.ref)/\Tps H as c/\c.length<=59/\
  ∀D,H D=none->Q (.ref D) (upd H D (b7 X.prog X.w D (STb.dd c) (c.zip as)))):=by
 intro aa s σ H xs us Q I r h;obtain⟨l,as,c,rfl,hq,hp,J,q⟩:=h;obtain⟨u,rfl,z⟩:=vals1 r;cases z;obtain⟨L,C,p1,_⟩:=I.list hq;obtain rfl:=a_ C;have E:=hp.length;have y:=(TB.zip hp).keys I;have F:(c.zip as).map (·.2)=as:=by rw[List.map_snd_zip ω]
 refine STb.Bx (B:=as) (knd:=intKind X.prog X.w) (vals:=c) (adr:=fun i=>as.getD i 0) (I.ok.hd hc) p1.isList hu oG (by rw[Aj,Ab];omega) (by rw[Aj,Ab];omega) (fun i hi=>by rw[Aj,Ab] at hi;rw[AQ,Af hi];exact List.getElem_mem hi)
  (fun i v e=>?_) (fun j x e=>?_) fun h' tk T g=>?_
 ·have f:(as.map Value.ref)[i]?=some v:=by simpa using e
  rw[Ao] at f;cases d:as[i]? with
  |none=>rw[d] at f;simp at f
  |some a=>
   rw[d] at f;rw[<-Ai f,AQ,d]
   rfl
 ·have G:j<as.length:=by rw[E];exact(List.getElem?_eq_some_iff.mp e).1
  have d:as[j]?=some as[j]:=Af G;rw[AQ,d];refine y (x,as[j]) (Ay (i:=j) ?_);rw[List.getElem?_zip_eq_some];exact⟨e,d⟩
 ·refine⟨.ref s⁻¹,_,I.laid (o:=b7 X.prog X.w s⁻¹ (STb.dd c) (c.zip as)) (fun b u e=>g b u (Ah e) e) (Ag _) (wK (STb.TO.of (by rw[F];exact T) fun p hp=>?_)),rfl,q _ (I.hok.fresh (Ag _))⟩
  exact STb.jo (y p hp) fun o e=>g _ o (Ah e) e
def G8(hu:X.A.units+64<cLine):bT X (binaryOp .Sub) (fun x y H Q=>∃g i c f d j,x=.ref g/\y=.ref i/\H g=some (b7 X.prog X.w g c d)/\H i=some (b7 X.prog X.w i f j)/\TB H d/\TB H j/\c.length<60/\¬c.length / 4>f.length/\
  ∀a,(∀k,k∈a↔k∈c/\k∉f)->∀D,H D=none->Q (.ref D) (upd H D (b7 X.prog X.w D a d))):=by
 intro aa s σ H x y v u Q I z C h;obtain⟨g,i,c,f,d,j,rfl,rfl,e1,e2,r,E,F,hq,q⟩:=h;cases z;cases C;obtain⟨L,M,N,O,G⟩:=(wL I e1).ts (r.keys I);obtain⟨P,S,U,W,J⟩:=(wL I e2).ts (E.keys I);refine STb.G2 G J hu oG F hq fun h' a T l hm=>?_;refine⟨.ref s⁻¹,_,I.laid (t':=s.toks) (o:=b7 X.prog X.w s⁻¹ a d) (fun b u e=>l b u (Ah e) e) (Ag _) (wK (STb.TO.of T fun p hp=>?_)),rfl,q a hm _ (I.hok.fresh (Ag _))⟩;exact STb.jo (r.keys I p hp) fun o e=>l _ o (Ah e) e
def G9:cE X (.builtin "len") (fun xs H Q=>∃D ks B,xs=[.ref D]/\H D=some (b7 X.prog X.w D ks B)/\Q (.int ks.length) H):=by
 intro aa s σ H xs us Q I r h;obtain⟨D,ks,B,rfl,hq,q⟩:=h;obtain⟨u,rfl,a⟩:=vals1 r;cases a;obtain⟨o,es,ep,t,h1,h2,b,h4,c,f,g,i,d,e⟩:=wL I hq;have hs:es.size<=152:=by rcases d with z|z|z|z|z|z<;>omega
 exact call_len_set h1 h2 b (STb.fits_of h4) ω ⟨.int ks.length,H,I.tok _,⟨_,by rw[c]⟩,q⟩
end
end L2
end
section
namespace L2
open PySem PySem.Spec PyProof.Rows
def BY{P:Program}{w:World}(ps:List Int):Aw (zx P w) (ps.map Sum.inl)=Aw (intKind P w) ps:=by
 unfold Aw;rw[AC]
 rfl
section
variable{X:Cx}
def G_(hu:X.A.units+64<cLine):cE X (.type "set") (fun xs H Q=>∃(a:Addr)(kvs:List (List Key×V))(c:Ξ),xs=[.ref a]/\Rd H a (.dT kvs)/\kvs.map (·.1)=c.map (·.map Sum.inl)/\c.length<=59/\
  ∀B,TB H B->∀D,H D=none->Q (.ref D) (upd H D (b7 X.prog X.w D (STb.dd c) B))):=by
 intro aa s σ H xs us Q I r h;obtain⟨a,kvs,c,rfl,hq,hp,P,q⟩:=h;obtain⟨u,rfl,F⟩:=vals1 r;cases F;obtain⟨z,y,ys,d,o,es,ep,h1,h2,G,h4,S⟩:=(show zA X.prog X.w H s.heap a (.dT kvs) from hq.ok I.hok);have J:kvs.length=ys.length:=Paired.length d;have f:kvs.length=c.length:=by simpa using congrArg List.length hp
 have L:es.size=ys.length:=by
  have:=congrArg List.length h4;rw[Ab] at this
  simpa using this
 have tps:Tps H (ys.map (·.2.1)) c:=by
  have:∀{l:List (List Key×V)}{m:List (List Key×Addr×Value)}{c:Ξ},KT H l m->l.map (·.1)=c.map (·.map Sum.inl)->Tps H (m.map (·.2.1)) c:=by
   intro l m c q
   induction q generalizing c with
   |nil=>intro e;cases c with
    |nil=>exact .nil
    |cons p ps=>simp at e
   |cons hq t ih=>intro e;cases c with
    |nil=>simp at e
    |cons p ps=>
     simp only[AE,List.cons.injEq] at e;refine .cons ?_ (ih e.2);have:=hq.2.1;rw[e.1,AC] at this;exact this
  exact this d hp
 have M:ys.map (·.1)=c.map (·.map Sum.inl):=by
  rw[<-hp];have:∀{l:List (List Key×V)}{m:List (List Key×Addr×Value)},KT H l m->m.map (·.1)=l.map (·.1):=by
   intro l m q
   induction q with
   |nil=>rfl
   |cons hq t ih=>rw[AE,AE,ih,hq.1]
  exact this d
 have v:=TB.zip tps;have C:=v.keys I;have N:(c.zip (ys.map (·.2.1))).map (·.2)=ys.map (·.2.1):=by rw[List.map_snd_zip (by rw[Ab];omega)]
 refine STb.G6 (B:=ys.map (·.2.1)) (knd:=intKind X.prog X.w) (vals:=c) (adr:=fun i=>(ys.map (·.2.1)).getD i 0) h1 h2.1 G y hu oG ω ω (fun i hi=>by rw[AQ,Af (by rw[Ab];omega)];exact List.getElem_mem _)
  (fun i e x e1 e2=>?_) (fun j x e=>?_) fun h' tk T g=>?_
 ·have hi:i<ys.length:=by rw[<-L];exact(Array.getElem?_eq_some_iff.mp e1).1
  have g3:es.toList[i]?=some e:=by simpa using e1
  have g4:ys[i]?=some ys[i]:=Af hi;rw[h4,Ao,g4] at g3;simp only[A7,Option.some.injEq] at g3;have g5:=congrArg (·[i]?) M;simp only[Ao,g4,e2,A7,Option.some.injEq] at g5;rw[<-g3,AQ,Ao,g4];refine⟨rfl,?_⟩;show Aw (zx X.prog X.w) ys[i].1=_;rw[g5,BY]
 ·have O:j<(ys.map (·.2.1)).length:=by rw[Ab,<-J,f];exact(List.getElem?_eq_some_iff.mp e).1
  have E:(ys.map (·.2.1))[j]?=some (ys.map (·.2.1))[j]:=Af O;rw[AQ,E];refine C (x,(ys.map (·.2.1))[j]) (Ay (i:=j) ?_);rw[List.getElem?_zip_eq_some];exact⟨e,E⟩
 ·refine⟨.ref s⁻¹,_,I.laid (o:=b7 X.prog X.w s⁻¹ (STb.dd c) (c.zip (ys.map (·.2.1)))) (fun b u e=>g b u (Ah e) e) (Ag _) (wK (STb.TO.of (by rw[N];exact T) fun p hp=>?_)),rfl,q _ v _ (I.hok.fresh (Ag _))⟩
  exact STb.jo (C p hp) fun o e=>g _ o (Ah e) e
end
def BZ{P:Program}{w:World}{H:Hp}{h:Heap}{a:Addr}{kvs:List (List Key×V)}{C:Ξ}(ok:HOk P w H h)(hq:Rd H a (.dT kvs))(hp:kvs.map (·.1)=C.map (·.map Sum.inl)):(a==sysModules)=false/\∃xs:List (List Int×Addr×Value),(∀v f,h.DictOfH (tupleKind (intKind v f)) a xs)/\xs.length=kvs.length/\∀(i:Nat) x,xs[i]?=some x->C[i]?=some x.1/\∃d,kvs[i]?=some d/\RelV d.2 x.2.2:=by
 obtain⟨z,y,ys,j,o,es,ep,h1,h2,D,h4,A⟩:=(show zA P w H h a (.dT kvs) from hq.ok ok);have key:∀{l:List (List Key×V)}{m:List (List Key×Addr×Value)}{c:Ξ},KT H l m->l.map (·.1)=c.map (·.map Sum.inl)->
   ∃xs:List (List Int×Addr×Value),m=xs.map (fun x=>(x.1.map Sum.inl,x.2))/\xs.map (·.1)=c/\(∀x∈xs,Tp H x.2.1 x.1)/\xs.length=l.length/\∀(i:Nat) x,xs[i]?=some x->c[i]?=some x.1/\∃d,l[i]?=some d/\RelV d.2 x.2.2:=by
  intro l m c q
  induction q generalizing c with
  |nil=>intro e;cases c with
   |nil=>exact⟨[],rfl,rfl,(fun x hx=>by cases hx),rfl,(fun i x e=>by simp at e)⟩
   |cons p ps=>simp at e
  |@cons p q' ps rM hq t ih=>intro e;cases c with
   |nil=>simp at e
   |cons r rs=>
    simp only[AE,List.cons.injEq] at e;obtain⟨xs,e1,e2,e3,s,u⟩:=ih e.2;have hk:=hq.2.1;rw[e.1,AC] at hk;refine⟨(r,q'.2)::xs,?_,by rw[AE,e2],fun x hx=>?_,by simp[s],fun i x ex=>?_⟩
    ·rw[AE,<-e1,<-e.1,hq.1]
    ·rcases List.mem_cons.mp hx with rfl|hx
     ·exact hk
     ·exact e3 x hx
    ·cases i with
     |zero=>
      simp at ex;subst ex;exact⟨rfl,p,rfl,hq.2.2⟩
     |succ i=>simpa using u i x (by simpa using ex)
 obtain⟨xs,e1,e2,e3,s,u⟩:=key j hp;refine⟨y,xs,fun v f=>⟨o,es,ep,h1,h2,D,?_,fun x hx=>?_,?_⟩,s,u⟩
 ·rw[h4,e1,AC]
  refine AZ fun x _=>?_;show DictEntry.mk (Aw (zx P w) (x.1.map Sum.inl)) (.ref x.2.1) x.2.2=DictEntry.mk (Aw (intKind v f) x.1) (.ref x.2.1) x.2.2;rw[BY]
  rfl
 ·obtain⟨_,G,r,p⟩:=(show zA P w H h x.2.1 (.tup (x.1.map V.int)) from ok x.2.1 _ (e3 x hx))
  exact wn p (intsAre_of r)
 ·have E:xs.map (fun x=>x.1.map (Sum.inl:Int->Key))=(xs.map (·.1)).map (·.map Sum.inl):=by rw[AC];rfl
  rw[e1,AC] at A;have F:((xs.map (·.1)).map (·.map (Sum.inl:Int->Key))).Nodup:=by rw[<-E];exact A
  exact List.Pairwise.of_map _ (fun a b g e=>g (by rw[e])) F
def G'(i j:Int):Prop:=0<j/\j<18446744073709551616
section
variable{X:Cx}
def B0:bT X (binaryOp .FloorDiv) (rI G' fun i j=>.int (i / j)):=nM fun i j _ _ _ _ _ hc q=>by
 have h1:(0:Int)<j:=hc.1;have h2:j<18446744073709551616:=hc.2;refine floordiv_int ω (by rw[Int.fdiv_eq_ediv_of_nonneg i ω];exact q) (.inl (PyProof.noPylong_of_log2 ?_));have a:j.natAbs≠0:=ω
 have b:j.natAbs.log2<64:=(Nat.log2_lt a).mpr ω;omega
end
end L2
end
section
namespace K18
open K1
open PySem L2 STb
abbrev wM:Stmt:=top 47
abbrev jr:Stmt:=top 48
abbrev kw:Stmt:=top 49
def B1(x y:Int):Prop:=0<=x/\(y=0\/(y=1/\x<4294967296))
def zD(H:Hp)(p:Addr):Prop:=∃x y,H p=some (.lst [.int x,.int y])/\B1 x y
def zy(p:Addr)(H H':Hp):Prop:=∀b o,b≠p->H b=some o->H' b=some o
def zy.trans{p:Addr}{H H1 H2:Hp}(a:zy p H H1)(b:zy p H1 H2):zy p H H2:=fun c o hc e=>b c o hc (a c o hc e)
def zy.of{p:Addr}{H H1:Hp}(a:Same H H1):zy p H H1:=fun c o _ e=>a c o e
def zy.free{p:Addr}{H H':Hp}(e:zy p H H')(hb:zD H p)(a:zD H' p){l:Addr}(h:H' l=none):H l=none:=by
 cases q:H l with
 |none=>rfl
 |some o=>
  obtain⟨x,y,e1,_⟩:=a;have b:l≠p:=fun z=>by rw[z,e1] at h;cases h
  rw[e l o b q] at h;cases h
def zD.same{H H':Hp}{p:Addr}(b:zD H p)(e:Same H H'):zD H' p:=let ⟨x,y,h,o⟩:=b;⟨x,y,e _ _ h,o⟩
def zD.ne{H:Hp}{p l:Addr}{as:List Addr}(b:zD H p)(h:H l=some (.lst (as.map V.ref))):l≠p:=by
 obtain⟨x,y,e,_⟩:=b;refine dF h e fun z=>?_;injection z with z
 cases as with
 |nil=>cases z
 |cons a r=>rw[AE] at z;cases z
def zD.net{H:Hp}{p t:Addr}{xs:List V}(b:zD H p)(h:H t=some (.tup xs)):t≠p:=by
 obtain⟨x,y,e,_⟩:=b;exact dF h e (by intro z;cases z)
def zy.tp{p:Addr}{H H':Hp}{a:Addr}{ps:List Int}(e:zy p H H')(b:zD H p)(h:Tp H a ps):Tp H' a ps:=e _ _ (b.net h) h
def zy.tps{p:Addr}{H H':Hp}{as:List Addr}{a:Ξ}(e:zy p H H')(b:zD H p)(h:Tps H as a):Tps H' as a:=Paired.mapP h fun _ _ q=>e.tp b q
def zy.then{p:Addr}{H H1:Hp}{a:Addr}{o:HO}(e:zy p H H1)(h:H a=none):zy p H (L2.upd H1 a o):=fun b u hb q=>by rw[zh (zg q h)];exact e b u hb q
def zD.upd{H:Hp}{p l:Addr}{o:HO}(b:zD H p)(h:l≠p):zD (L2.upd H l o) p:=let ⟨x,y,e,k⟩:=b;⟨x,y,by rw[zh h.symm];exact e,k⟩
def zD.new{H:Hp}{p l:Addr}{o:HO}(b:zD H p)(h:H l=none):zD (L2.upd H l o) p:=b.same (Same.new h)
section
variable{P:Program}{w:World}{K:Ae}{mg:Str->Option Value}{base:Heap}
def B2(K:Ae):Sp:=fun vs H Q _=>∃(l:Addr)(ns:List Int),vs=[.ref l,.int 0]/\SqL K H l (ns.map V.int)/\∀n,Q (.int n) H
def Ha:zo ["script","k"] ["script","k"] (ze wM):=⟨rfl,rfl,rfl,δ,rfl,δ,δ⟩
def Hb{f:Addr}{fd:FuncData}(F:Fun K "_law_cell_at" "_law_cell_at" wM f fd)(B:Bt mg):FnOk P w K mg base aE 1 f fd ["script","k"] (B2 K):=by
 refine F.ok Ha (fun vs H Q E h=>?_) (fun cdv A outer s H vs Q E hr h=>?_)
 ·obtain⟨l,ns,rfl,_⟩:=h;rfl
 ·obtain⟨l,ns,rfl,a,k⟩:=h
  refine⟨_,za (zI (zl jb (pv 1) (zk zn rfl B.len cv (af (pv 0) ao)) (au _)) (zd (zm (cA zM (pv 0) (pv 1) (fun _ _=>rfl)))) zp) (zd (zm zf)),?_⟩;refine⟨_,rfl,_,rfl,l,_,rfl,.inl a,_,_,rfl,rfl,_,rfl,?_⟩;refine bv (fun h1=>?_) (fun h1=>?_)
  ·cases ns with
   |nil=>have:=of_decide_eq_true h1;simp at this
   |cons n ns=>exact⟨_,rfl,_,rfl,l,_,_,_,rfl,rfl,a,zC (j:=0) rfl,k n⟩
  ·exact k 0
def B3:Sp:=fun vs H Q _=>∃n,vs=[.int n]/\∀p x y,H p=none->B1 x y->Q (.ref p) (upd H p (.lst [.int x,.int y]))
def Hc:zo ["cell"] ["cell"] (ze jr):=⟨rfl,rfl,rfl,δ,rfl,δ,δ⟩
def Hd{f:Addr}{fd:FuncData}(F:Fun K "_law_box" "_law_box" jr f fd):FnOk P w K mg base aE 1 f fd ["cell"] B3:=by
 refine F.ok Hc (fun vs H Q E h=>?_) (fun cdv A outer s H vs Q E hr h=>?_)
 ·obtain⟨n,rfl,_⟩:=h;rfl
 ·obtain⟨n,rfl,k⟩:=h
  refine⟨_,za (zI (zl xZ (pv 0) (zq lm zf zf) (au _)) (zd (zm (zN (af (zq xV (pv 0) (zq lm zf zf)) (af zf ao))))) zp)
   (zd (zm (zN (af (zq i' (zq ey (zq i9 (zq i' (pv 0) (zq lm zf zf)) zf) zf) zf) (af zf ao))))),?_⟩
  have hc:ll 10 18:=⟨ξ,ξ,ξ⟩;have a:(10:Int) ^ (18:Int).toNat=1000000000000000000:=ξ
  refine⟨_,rfl,_,_,rfl,rfl,hc,_,_,rfl,rfl,_,rfl,?_⟩;refine bv (fun h1=>?_) (fun h1=>?_)
  ·refine⟨_,rfl,_,_,rfl,rfl,hc,_,_,rfl,rfl,zb (by simp),fun p hp=>k p _ 0 hp ⟨?_,.inl rfl⟩⟩
   have:=of_decide_eq_true h1;omega
  ·refine⟨_,rfl,_,_,rfl,rfl,hc,_,_,rfl,rfl,(by show(0:Int)<10 ^ (18:Int).toNat;rw[a];decide),_,_,rfl,rfl,.inr ⟨ξ,ξ⟩,_,_,rfl,rfl,_,_,rfl,rfl,(by show(0:Int)<2147483629;decide),zb (by simp),fun p hp=>k p _ 1 hp ⟨?_,.inr ⟨rfl,?_⟩⟩⟩
   ·exact Int.emod_nonneg _ ξ
   ·have:=Int.emod_lt_of_pos (n%10 ^ (18:Int).toNat*69621+7001) (show(0:Int)<2147483629 from ξ)
    omega
def iR:Sp:=fun vs H Q _=>∃p m,vs=[.ref p,.int m]/\zD H p/\0<m/\m<18446744073709551616/\∀r H',0<=r->r<m->zy p H H'->zD H' p->Q (.int r) H'
def wN:zo ["box","most","found","mixed"] ["box","most"] (ze kw):=⟨rfl,rfl,rfl,δ,rfl,δ,δ⟩
def pl{f:Addr}{fd:FuncData}(F:Fun K "_law_take" "_law_take" kw f fd):FnOk P w K mg base aE 1 f fd ["box","most"] iR:=by
 refine F.ok wN (fun vs H Q E h=>?_) (fun cdv A outer s H vs Q E hr h=>?_)
 ·obtain⟨p,m,rfl,_⟩:=h;rfl
 ·obtain⟨p,m,rfl,⟨x,y,hp,d,g⟩,a,hm,k⟩:=h
  refine⟨_,za (zI (zl d_ (cA zM (pv 0) zf (fun _ _=>rfl)) zf (au _))
    (za (zj (i:=2) wN.nd rfl (Or.inl rfl) (zq i' (cA zM (pv 0) zf (fun _ _=>rfl)) (pv 1)))
    (za (xT (zq B0 (cA zM (pv 0) zf (fun _ _=>rfl)) (pv 1)) (xS (pv 0) zf set_list))
    (zd (zm (pv 2))))) zp)
   (za (zj (i:=3) wN.nd rfl (Or.inl rfl) (zq i' (zq ey (zq ey (zq i9 (cA zM (pv 0) zf (fun _ _=>rfl)) (cA zM (pv 0) zf (fun _ _=>rfl))) (zq i9 zf (cA zM (pv 0) zf (fun _ _=>rfl)))) zf) zf))
   (za (xT (zq i' (zq ey (zq ey (zq i9 (pv 3) (pv 3)) (zq i9 zf (pv 3))) zf) zf) (xS (pv 0) zf set_list))
   (zd (zm (zq i' (zq B0 (cA zM (pv 0) zf (fun _ _=>rfl)) zf) (pv 1)))))),?_⟩
  have c:ee ([.int x,.int y]:List V) 0=some (.int x):=zC (j:=0) rfl;have D:ee ([.int x,.int y]:List V) 1=some (.int y):=zC (j:=1) rfl;refine⟨_,rfl,p,_,_,_,rfl,rfl,SqL.of hp,D,rfl,_,rfl,?_⟩;refine bv (fun h1=>?_) (fun h1=>?_)
  ·refine⟨_,rfl,p,_,_,_,rfl,rfl,SqL.of hp,c,_,rfl,_,_,rfl,rfl,a,?_⟩
   refine⟨_,rfl,p,_,_,_,rfl,rfl,SqL.of hp,c,_,rfl,_,_,rfl,rfl,⟨a,hm⟩,_,rfl,p,_,_,0,rfl,rfl,hp,rfl,?_⟩;refine⟨_,rfl,k (x%m) _ (Int.emod_nonneg _ ω) (Int.emod_lt_of_pos _ a) (fun b o hb e=>by rw[zh hb];exact e) ⟨x / m,y,al,Int.ediv_nonneg d ω,?_⟩⟩;rcases g with q|⟨q,hx⟩
   ·exact .inl q
   ·refine .inr ⟨q,Int.lt_of_le_of_lt (Int.ediv_le_self _ d) hx⟩
  ·have hy:y=1/\x<4294967296:=by
    rcases g with q|q
    ·exact absurd (by subst q;rfl) h1
    ·exact q
   obtain⟨rfl,hx⟩:=hy;have hb:CMul x x:=.inl ⟨ω,ω⟩;refine⟨_,rfl,p,_,_,_,rfl,rfl,SqL.of hp,c,_,rfl,p,_,_,_,rfl,rfl,SqL.of hp,c,_,_,rfl,rfl,hb,_,rfl,p,_,_,_,rfl,rfl,SqL.of hp,c,_,_,rfl,rfl,.inl ⟨ξ,ξ⟩,_,_,rfl,rfl,_,_,rfl,rfl,_,_,rfl,rfl,(by show(0:Int)<2147483647;decide),?_⟩;have G:=Int.emod_nonneg (x*x+39373*x+12345) (show(2147483647:Int)≠0 from ξ);have I:=Int.emod_lt_of_pos (x*x+39373*x+12345) (show(0:Int)<2147483647 from ξ);obtain⟨z,l⟩:∃z,z=(x*x+39373*x+12345)%2147483647:=⟨_,rfl⟩;rw[<-l] at G I;show k9 _ _ _ ([some (.ref p),some (.int m),none,some (.int ((x*x+39373*x+12345)%2147483647))]:St) H;rw[<-l];refine⟨_,rfl,_,rfl,_,_,rfl,rfl,.inl ⟨ω,ω⟩,_,rfl,_,_,rfl,rfl,.inl ⟨ξ,ξ⟩,_,_,rfl,rfl,_,_,rfl,rfl,_,_,rfl,rfl,(by show(0:Int)<2147483587;decide),_,rfl,p,_,_,0,rfl,rfl,hp,rfl,?_⟩;have v:=Int.emod_nonneg (z*z+16807*z+7) (show(2147483587:Int)≠0 from ξ);have g1:=Int.emod_lt_of_pos (z*z+16807*z+7) (show(0:Int)<2147483587 from ξ);obtain⟨u,r⟩:∃u,u=(z*z+16807*z+7)%2147483587:=⟨_,rfl⟩;rw[<-r] at v g1;have C:upd H p (.lst [.int ((z*z+16807*z+7)%2147483587),.int 1]) p=some (.lst [.int u,.int 1]):=by rw[r];exact al
   refine⟨_,rfl,p,_,_,_,rfl,rfl,SqL.of C,zC (j:=0) rfl,_,_,rfl,rfl,⟨ξ,ξ⟩,_,rfl,_,_,rfl,rfl,a,?_⟩;exact k _ _ (Int.emod_nonneg _ ω) (Int.emod_lt_of_pos _ a) (fun b o hb e=>by rw[zh hb];exact e) ⟨u,1,C,v,.inr ⟨rfl,ω⟩⟩
end
abbrev mx:Stmt:=top 50
abbrev wO:Stmt:=top 51
section
variable{P:Program}{w:World}{K:Ae}{mg:Str->Option Value}{base:Heap}
def He{H2:Hp}{as:List Addr}{fs:Ξ}{D l:Addr}{Q:VK}(E:H2 l=some (.lst (as.map V.ref)))(ht:Tps H2 as fs)(F:as.length<=100)(w:H2 D=none)(k:∀bs b,Same H2 b->b D=some (.lst (bs.map V.ref))->Tps b bs (fs.filter fun q=>!decide (q=[]))->Q (.ref D) b):cF (et K l) (dc 0) (jQ (dZ (ji true K) (a' 0) (fb cg))) (a' 0) [none] H2 D Q:=by
 have C:=ht.length;refine zV (xs:=as.map V.ref) (fun j σ ys b=>∃bs v,σ=[v]/\Same H2 b/\b D=some (.lst ys)/\ys=bs.map V.ref/\Tps b bs ((fs.take j).filter fun q=>!decide (q=[]))) ?_ ?_ ?_ ?_
 ·exact⟨[],none,rfl,Same.new w,al,rfl,.nil⟩
 ·rintro j σ ys b ⟨bs,v,rfl,g,i,rfl,hb⟩
  exact SqL.of (g _ _ E)
 ·rintro j σ ys b x hx p hy ⟨bs,v,rfl,g,i,rfl,hb⟩
  obtain⟨a,A,rfl⟩:=eR hx;obtain⟨f,r,hf⟩:=ht.get A;refine⟨_,rfl,zb (by simp),fun t y=>?_⟩;have s:=g.tp hf;have d:Same b (upd b t (.tup [])):=Same.new y;refine .inl ⟨a,t,f,[],rfl,rfl,d.tp s,al,_,rfl,?_⟩;have u:=g.trans d;have keep:∀(o:HO) c xs,upd b t (.tup []) c=some (.tup xs)->upd (upd b t (.tup [])) D o c=some (.tup xs):=fun o c xs e=>by
   rw[zh (dF e (d _ _ i) (by intro z;cases z))];exact e
  by_cases h:f=[]
  ·subst h
   refine aW (gj p hy ⟨bs,_,rfl,u,d _ _ i,rfl,?_⟩);rw[AX r,List.filter_append]
   simpa using d.tps hb
  ·rw[if_pos rfl,show(!decide (f=[]))=true by simp[h]]
   refine aK ⟨_,rfl,bR (ys:=bs.map V.ref) (by rw[Ab];exact zb ω) p hy (d _ _ i) ⟨bs++[a],_,rfl,u.then w,al,by rw[At];rfl,?_⟩⟩;rw[AX r,List.filter_append,show [f].filter (fun q=>!decide (q=[]))=[f] by simp[h]];exact Tps.snoc (Paired.mapP (d.tps hb) fun c xs e=>keep _ c _ e) (keep _ a _ (d.tp s))
 ·rintro σ ys b ⟨bs,v,rfl,g,i,rfl,hb⟩
  rw[Ab,C,take_all] at hb;exact k bs b g i hb
def pq:zo ["piece","found","point"] ["piece"] (ze mx):=⟨rfl,rfl,rfl,δ,rfl,δ,δ⟩
def Hf{f:Addr}{fd:FuncData}(F:Fun K "_law_parts" "_law_parts" mx f fd):FnOk P w K mg base aE 1 f fd ["piece"] oX:=by
 refine F.ok pq (fun vs H Q E h=>?_) (fun cdv A outer s H vs Q E hr h=>?_)
 ·obtain⟨a,ps,rfl,_⟩:=h;rfl
 ·obtain⟨a,ps,rfl,z,L,k⟩:=h
  have N:=hr.units;refine⟨_,za (zj (i:=1) pq.nd rfl (Or.inl rfl) (zN (af (iI ao) ao)))
   (za (eu A2 rfl (jJ (pv 0)) (zr (i:=2) pq.nd rfl (Or.inr rfl))
    (zd (zj (i:=1) pq.nd rfl (Or.inl rfl) (zq gg (pv 1) (zw ["piece","found","point"] ["part","point"] [none,some 2] (zG (pv 1)) (fun g C s₀ H₀ ex=>zr (i:=0) (cW ["part","point"]) rfl (Or.inl rfl)) (fun g C s₀ H₀ ex=>zL)
     (fun g C s₀ H₀ ex=>zq yU (pv 0) (iI (af (pv 1) ao))) (hfr:=gC (ze mx) δ))))))
   (zd (zm (zw ["piece","found","point"] ["part"] [none] (zG (pv 1)) (fun g C s₀ H₀ ex=>zr (i:=0) (cW ["part"]) rfl (Or.inl rfl)) (fun g C s₀ H₀ ex=>oh (zl (FX N) (pv 0) (iI ao) (au _)))
     (fun g C s₀ H₀ ex=>pv 0) (hfr:=bK δ) (tc:=jQ (dZ (ji true K) (a' 0) (fb cg))))))),?_⟩
  refine⟨zb (by simp),fun e he=>⟨zb (by simp),fun l b=>?_⟩⟩;have G:Same H (upd (upd H e (.tup [])) l (.lst [.ref e])):=(Same.new he).then ((Same.new he).free b);have p:e≠l:=zg (H:=upd H e (.tup [])) al b;refine⟨_,rfl,a,rfl,⟨_,SqT.of (G _ _ z)⟩,xU (K:=K) (a:=a) (xs:=ps.map V.int) (fun i σ H2=>∃l as v,σ=[some (.ref a),some (.ref l),v]/\Same H H2/\H l=none/\H2 l=some (.lst (as.map V.ref))/\Tps H2 as (subs (ps.take i)))
   ⟨l,[e],none,rfl,G,(Same.new he).free b,al,.cons (by show upd _ _ _ e=_;rw[zh p];exact al) .nil⟩ (fun i σ H2 _ ⟨_,_,_,_,c,_⟩=>SqT.of (c _ _ z)) ?_ ?_⟩
  ·rintro i x σ H2 hx ⟨l,as,v,rfl,c,M,b,ht⟩
   obtain⟨q,eq,rfl⟩:=kr hx;have hi:i<ps.length:=(List.getElem?_eq_some_iff.mp eq).1;have r:=ht.length;have S:as.length<=32:=by
    rw[r,oI,AV];exact fq ω
   have hm:∀f∈subs (ps.take i),f.length<=100:=fun f hf=>by
    have:=BC _ f hf;rw[AV] at this;omega
   refine⟨_,rfl,_,rfl,l,rfl,⟨_,SqL.of b⟩,fun D j=>zH (BK b ht ω hm j fun bs J d o hb=>?_)⟩;have O:=hb.length;rw[Ab] at O;refine⟨l,D,_,_,rfl,rfl,d _ _ b,o,by rw[Ab,Ab];exact zb ω,fun u y=>?_⟩;have I:H u=none:=(c.trans d).free y;refine⟨u,as++bs,_,rfl,(c.trans d).then I,I,by rw[al,At],?_⟩;rw[AX eq,wA];exact(Same.new y).tps ((d.tps ht).append hb)
  ·rintro σ H2 ⟨l,as,v,rfl,c,M,b,ht⟩
   rw[Ab,take_all] at ht;have r:=ht.length;refine⟨_,rfl,l,rfl,⟨_,SqL.of b⟩,fun D j=>zH (He b ht (by rw[r,oI];have:=fq L;omega) j fun bs J d o hb=>?_)⟩;rw[GF] at hb;exact k D bs J (c.trans d) (c.free j) o hb
def Hg{H2:Hp}{bs:List Addr}{fs:Ξ}{D l:Addr}{Q:VK}(F:H2 l=some (.lst (bs.map V.ref)))(ht:Tps H2 bs fs)(I:bs.length<=1000)(u:H2 D=none)(k:∀(cs:List Addr) a,Same H2 a->a D=some (.lst (cs.map V.ref))->cs.length=bs.length->(∀(i:Nat) c,cs[i]?=some c->∃b f,bs[i]?=some b/\fs[i]?=some f/\a c=some (.tup [.int f.length,.ref b]))->Q (.ref D) a):cF (et K l) (dc 0) bZ (fb (cu (jc (fun xs H Q=>∃p ys,xs=[V.ref p]/\(SqL K H p ys\/SqT K H p ys)/\Q (.int ys.length) H) (cu (a' 0) cg)) (cu (a' 0) cg))) [none] H2 D Q:=by
 have G:=ht.length;refine zV (xs:=bs.map V.ref) (fun j σ ys a=>∃(cs:List Addr)(v:Option V),σ=[v]/\Same H2 a/\a D=some (.lst ys)/\ys=cs.map V.ref/\cs.length=j/\∀(i:Nat) c,cs[i]?=some c->∃b f,bs[i]?=some b/\fs[i]?=some f/\a c=some (.tup [.int f.length,.ref b])) ?_ ?_ ?_ ?_
 ·exact⟨[],none,rfl,Same.new u,al,rfl,rfl,fun i c e=>by simp at e⟩
 ·rintro j σ ys a ⟨cs,v,rfl,g,h,rfl,r,hc⟩
  exact SqL.of (g _ _ F)
 ·rintro j σ ys a x hx r hy ⟨cs,v,rfl,g,h,rfl,d,hc⟩
  obtain⟨b,s,rfl⟩:=eR hx;obtain⟨f,y,hf⟩:=ht.get s;refine cx ?_;refine⟨_,rfl,b,_,rfl,.inr (SqT.of (g.tp hf)),_,rfl,zb (by simp),fun t w=>?_⟩;rw[show(f.map V.int).length=f.length from Ab _];have q:Same a (upd a t (.tup [.int f.length,.ref b])):=Same.new w;have keep:∀(o:HO) c xs,upd a t (.tup [.int f.length,.ref b]) c=some (.tup xs)->upd (upd a t (.tup [.int f.length,.ref b])) D o c=some (.tup xs):=fun o c xs e=>by
   rw[zh (dF e (q _ _ h) (by intro z;cases z))];exact e
  refine bR (ys:=cs.map V.ref) (by rw[Ab];exact zb ω) r hy (q _ _ h) ⟨cs++[t],_,rfl,(g.trans q).then u,al,by rw[At];rfl,by rw[Aq,d];rfl,fun i c e=>?_⟩
  by_cases hi:i<cs.length
  ·rw[List.getElem?_append_left hi] at e
   obtain⟨A,C,e1,e2,e3⟩:=hc i c e;exact⟨A,C,e1,e2,keep _ c _ (q _ _ e3)⟩
  ·rw[List.getElem?_append_right ω] at e
   have E:i-cs.length=0:=by
    rcases Nat.eq_zero_or_pos (i-cs.length) with z|z
    ·exact z
    ·rw[List.getElem?_eq_none (by simp only[Ap,List.length_nil];omega)] at e;cases e
   rw[E] at e;obtain rfl:t=c:=by simpa using e
   have:i=j:=ω
   subst this;exact⟨b,f,s,y,keep _ t _ al⟩
 ·rintro σ ys a ⟨cs,v,rfl,g,h,rfl,d,hc⟩
  rw[Ab] at d;exact k cs a g h d hc
def iS(H:Hp)(c:Addr):Addr:=match H c with
 |some (.tup [_,.ref b])=>b
 |_=>0
def Hh{H2:Hp}{cs:List Addr}{D l:Addr}{Q:VK}(o:H2 l=some (.lst (cs.map V.ref)))(ht:∀c∈cs,∃n b,H2 c=some (.tup [.int n,.ref b]))(p:cs.length<=1000)(h:H2 D=none)(k:∀a,Same H2 a->a D=some (.lst (cs.map fun c=>V.ref (iS H2 c)))->Q (.ref D) a):cF (et K l) (dc 0) bZ (dZ (jd K) (a' 0) (tC (.int 1))) [none] H2 D Q:=by
 refine zV (xs:=cs.map V.ref) (fun j σ ys a=>∃v,σ=[v]/\Same H2 a/\a D=some (.lst ys)/\ys=(cs.take j).map fun c=>V.ref (iS H2 c)) ?_ ?_ ?_ ?_
 ·exact⟨none,rfl,Same.new h,al,rfl⟩
 ·rintro j σ ys a ⟨v,rfl,d,f,rfl⟩
  exact SqL.of (d _ _ o)
 ·rintro j σ ys a x hx i hy ⟨v,rfl,d,f,rfl⟩
  obtain⟨c,g,rfl⟩:=eR hx;obtain⟨n,b,e⟩:=ht c (Ay g);refine cx ?_;refine⟨_,rfl,c,_,_,_,rfl,rfl,SqT.of (d _ _ e),zC (j:=1) rfl,bR (by rw[Ab];exact zb ω) i hy f ⟨_,rfl,d.then h,al,?_⟩⟩;rw[AX g,At];have:iS H2 c=b:=by unfold iS;rw[e]
  rw[<-this];rfl
 ·rintro σ ys a ⟨v,rfl,d,f,rfl⟩
  rw[Ab,take_all] at f;exact k a d f
def my:zo ["web","found","piece","part","ranked"] ["web"] (ze wO):=⟨rfl,rfl,rfl,δ,rfl,δ,δ⟩
def Hi{f fp:Addr}{fd cq:FuncData}(F:Fun K "_law_pieces" "_law_pieces" wO f fd)(B:Bt mg)(Fp:Fun K "_law_parts" "_law_parts" mx fp cq)(bp:Binds K cq ["piece"] [])(mp:mg "_law_parts"=some (.ref fp)):FnOk P w K mg base aE 2 f fd ["web"] (ms K):=by
 have Gp:FnOk P w K mg base aE 1 fp cq ["piece"] oX:=Hf Fp;refine F.ok my (fun vs H Q E h=>?_) (fun cdv A outer s H vs Q E hr h=>?_)
 ·obtain⟨l,as,g,rfl,_⟩:=h;rfl
 ·obtain⟨l,as,g,rfl,hl,ht,h5,dP,h64,k⟩:=h
  have hu:=hY hr;have aM:=hr.units;refine⟨_,za (zj (i:=1) my.nd rfl (Or.inl rfl) jW)
   (za (eu A2 rfl (zG (pv 0)) (zr (i:=2) my.nd rfl (Or.inl rfl))
    (zd (eu A2 rfl (zG (zu Gp hr rfl mp Fp.kp bp .nil aw (af (pv 2) ao))) (zr (i:=3) my.nd rfl (Or.inl rfl))
     (zd (jU hu (pv 1) (pv 3) fC rfl)))))
   (za (zj (i:=4) my.nd rfl (Or.inl rfl) (zk (F0 aM) rfl B.sorted wD (af
    (zw ["web","found","piece","part","ranked"] ["piece"] [none] (zG (zt (yR rfl) rfl B.list kq (af (pv 1) ao))) (fun M C s₀ H₀ ex=>zr (i:=0) (cW ["piece"]) rfl (Or.inl rfl)) (fun M C s₀ H₀ ex=>zL)
     (fun M C s₀ H₀ ex=>iI (af (zk zn rfl B.len cv (af (pv 0) ao)) (af (pv 0) ao))) (hfr:=bK δ) (te:=fb (cu (jc (fun xs H Q=>∃p ys,xs=[V.ref p]/\(SqL K H p ys\/SqT K H p ys)/\Q (.int ys.length) H) (cu (a' 0) cg)) (cu (a' 0) cg)))) ao)))
   (zd (zm (zw ["web","found","piece","part","ranked"] ["one"] [none] (zG (pv 4)) (fun M C s₀ H₀ ex=>zr (i:=0) (cW ["one"]) rfl (Or.inl rfl)) (fun M C s₀ H₀ ex=>zL)
     (fun M C s₀ H₀ ex=>cA lB (pv 0) zf (fun _ _=>rfl)) (hfr:=bK δ) (te:=dZ (jd K) (a' 0) (tC (.int 1)))))))),?_⟩
  intro d hd;have aQ:=ht.length;refine⟨_,rfl,l,rfl,⟨_,(Same.new hd).seq hl⟩,gQ (K:=K) (a:=l) (xs:=as.map V.ref) (fun i σ H2=>∃v J u,σ=[some (.ref l),some (.ref d),v,J,u]/\Same H H2/\H2 d=some (.dT (fy ((g.take i).flatMap parts))))
   ⟨none,none,none,rfl,Same.new hd,al⟩ (fun i σ H2 _ ⟨_,_,_,_,G,_⟩=>G.seq hl) ?_ ?_⟩
  ·rintro i x σ H2 hx ⟨v,J,u,rfl,G,S⟩
   obtain⟨a,ea,rfl⟩:=eR hx;obtain⟨ps,cp,cR⟩:=ht.get ea;have c_:=h5 ps (Ay cp);have hi:i<g.length:=(List.getElem?_eq_some_iff.mp cp).1;refine⟨_,rfl,a,ps,rfl,G.tp cR,c_,fun D cs r I cz N O=>⟨D,rfl,⟨_,SqL.of N⟩,?_⟩⟩;have kC:=O.length;have kz:D≠d:=dF N (I _ _ S) (by intro z;cases z);refine gQ (K:=K) (a:=D) (xs:=cs.map V.ref) (fun j σ L=>∃J,σ=[some (.ref l),some (.ref d),some (.ref a),J,u]/\Same H L/\L D=some (.lst (cs.map V.ref))/\Tps L cs (parts ps)/\L d=some (.dT (fy ((g.take i).flatMap parts++(parts ps).take j))))
    ⟨_,rfl,G.trans I,N,O,by rw[List.take_zero,List.append_nil];exact I _ _ S⟩ (fun j σ L _ ⟨_,_,_,q,_⟩=>SqL.of q) ?_ ?_
   ·rintro j x σ L hx ⟨J,rfl,aN,cC,cS,T⟩
    obtain⟨c,ec,rfl⟩:=eR hx;obtain⟨f,ef,hf⟩:=cS.get ec;have U:(fy ((g.take i).flatMap parts++(parts ps).take j)).length<sizeLine:=by
     refine zK (AA (BM _) ?_);rw[Aq];have h1:=wG (g.take i) (fun q hq=>h5 q (List.mem_of_mem_take hq));have h2:=kl ps;have h3:=fq c_;rw[AV] at h1 ⊢;omega
    refine⟨_,rfl,_,rfl,d,_,rfl,DPut.t (k:=f.map Sum.inl) T (by rw[AC];exact hf) U,⟨_,rfl,aN.then hd,?_,?_,?_⟩⟩
    ·rw[zh kz];exact cC
    ·exact Tps.upd cS T (by intro xs z;cases z)
    ·rw[al,BN,List.append_assoc,<-AX ef]
   ·rintro σ L ⟨J,rfl,aN,cC,cS,T⟩
    refine⟨_,_,_,rfl,aN,?_⟩;rw[Ab,kC,take_all] at T;rw[BP cp];exact T
  ·rintro σ H2 ⟨v,J,u,rfl,G,S⟩
   rw[Ab,aQ,take_all] at S;refine⟨_,rfl,d,_,rfl,S,fun bs hb l2 bY=>?_⟩;have tb:=BO hb;have iw:=tb.length;have gE:(dd (g.flatMap parts)).length<=620:=by
    have h1:=gl (g.flatMap parts);have h2:=wG g h5;omega
   have Y:Same H2 (upd H2 l2 (.lst (bs.map V.ref))):=Same.new bY;refine⟨l2,rfl,⟨_,SqL.of al⟩,fun D N=>zH (Hg (K:=K) al (Y.tps tb) ω N fun cs r I ai hcl hc=>?_)⟩;have mX:=I.tps (Y.tps tb);refine⟨D,cs,(dd (g.flatMap parts)).map fun f=>((f.length:Int)::f),rfl,SqL.of ai,?_,(by rw[Ab];exact h64),fun R o hp hs hR=>?_⟩
   ·refine Paired.of_at (by rw[Ab];omega) fun i c y e1 e2=>?_
    obtain⟨b,f,g1,g2,g3⟩:=hc i c e1;rw[Ao,g2] at e2;obtain rfl:=Ai e2;exact⟨_,b,f,rfl,g3,om mX i b f g1 g2⟩
   ·have W:Same r (upd r R (.lst (o.map fun q=>V.ref q.2))):=Same.new hR
    have hq:∀q∈o,∃b f,q.1=((f:List Int).length:Int)::f/\r q.2=some (.tup [.int f.length,.ref b])/\Tp r b f:=fun q hq=>by
     obtain⟨m,em⟩:=List.mem_iff_getElem?.mp (hp.mem_iff.mp hq);rw[bH.bM,Ao] at em;cases e2:cs[m]? with
     |none=>rw[e2] at em;cases h:(dd (g.flatMap parts))[m]?<;>rw[h] at em<;>cases em
     |some c=>
      obtain⟨b,f,g1,g2,g3⟩:=hc m c e2;rw[g2,e2] at em;obtain rfl:(((f.length:Int)::f),c)=q:=Ai em;exact⟨b,f,rfl,g3,om mX m b f g1 g2⟩
    have hql:o.length<=620:=by rw[hp.length_eq,List.length_zip,Ab];omega
    refine⟨_,rfl,R,rfl,⟨_,SqL.of al⟩,fun D2 bC=>zH (Hh (K:=K) (cs:=o.map (·.2)) (by rw[al,AC];rfl) (fun c uZ=>?_) (by rw[Ab];omega) bC fun H5 cL dv=>?_)⟩
    ·obtain⟨q,Z,rfl⟩:=List.mem_map.mp uZ
     obtain⟨b,f,_,g2,_⟩:=hq q Z;exact⟨_,b,W _ _ g2⟩
    ·have sAll:Same H H5:=((G.trans Y).trans I).trans (W.trans cL)
     have snd:∀q∈o,∀b f,r q.2=some (.tup [.int (f:List Int).length,.ref b])->iS (upd r R (.lst (o.map fun q=>V.ref q.2))) q.2=b:=fun q _ b f e=>by
      unfold iS;rw[W _ _ e]
     refine k D2 H5 (o.map fun q=>(q.1.tail,iS (upd r R (.lst (o.map fun q=>V.ref q.2))) q.2)) ⟨sAll,(((G.trans Y).trans I).trans W).free bC,?_,fun q Z=>?_,?_,?_⟩
     ·rw[dv,AC,AC];rfl
     ·obtain⟨X,h0,rfl⟩:=List.mem_map.mp Z
      obtain⟨b,f,g1,g2,g3⟩:=hq X h0;show Tp H5 (iS _ X.2) X.1.tail;rw[snd X h0 b f g2,g1];exact cL.tp (W.tp g3)
     ·rw[AC]
      have h1:=hp.map (fun q:List Int×Addr=>q.1.tail);have e:((((dd (g.flatMap parts)).map fun f=>((f.length:Int)::f)).zip cs).map fun q:List Int×Addr=>q.1.tail)=dd (g.flatMap parts):=by
       rw[show(fun q:List Int×Addr=>q.1.tail)=(fun l:List Int=>l.tail) ∘ Prod.fst from rfl,<-AC,List.map_fst_zip (by rw[Ab];omega),AC];exact List.map_id' _
      rw[e] at h1;exact h1
     ·rw[List.pairwise_map]
      refine hs.imp_of_mem fun{p q} h1 h2 h3=>?_;obtain⟨_,f,g1,_⟩:=hq p h1;obtain⟨_,f',nP,_⟩:=hq q h2;rw[g1,nP] at h3;rw[g1,nP];exact h3
end
abbrev pu:Stmt:=top 52
abbrev mC:Stmt:=top 53
def texts:List Str:=(["","0","01 12 02","012 013 023 123","01 02 03","012 023 034 014","0123","01 23 45","012 34"]:List Str)++(["012 123 234 034 014","01 12 23 03 13","012 013 014","0 1 2 3"]:List Str)++(["01 12 02 34 45 35","023 234 1"]:List Str)
++(["014 015 023 025 034 123 124 135 245 345","012 013 024 034 125 135 245 345"]:List Str)++(["01234","0123 0124 0134 0234 1234"]:List Str)++(["013 123 234 024 014 145 125 025 056 016 126 267 027 037 345 356 367"]:List Str)
def wordsOf(n:Nat):List Str:=Al (texts.getD n "") " "
def digits(x:Str):List Int:=x.cps.toList.map fun(c:Nat)=>((c:Int)-48)
def known(n:Nat):Ξ:=((wordsOf n).filter fun(x:Str)=>!decide (x="")).map digits
def Hj:∀n,n<20->(texts.getD n "").length+2<=1000/\(wordsOf n).length<=20/\∀x∈wordsOf n,x.cps.size<=5/\∀c∈x.cps.toList,48<=c/\c<=57:=δ
def Hk:∀c,48<=c->c<=57->intText? ⟨#[c]⟩=some ((c:Int)-48):=by
 intro c h1 h2;have:∀c,c<58->48<=c->intText? ⟨#[c]⟩=some ((c:Int)-48):=δ
 exact this c ω h1
section
variable{P:Program}{w:World}{K:Ae}{mg:Str->Option Value}{base:Heap}
def B4:Sp:=fun vs H Q _=>∃n:Nat,vs=[.int n]/\n<20/\∀D as H',Same H H'->H D=none->H' D=some (.lst (as.map V.ref))->Tps H' as (known n)->Q (.ref D) H'
def iX:zo ["number","some","web","word"] ["number"] (ze pu):=⟨rfl,rfl,rfl,δ,rfl,δ,δ⟩
def Hl{H2:Hp}{x:Str}{D:Addr}{Q:VK}(hx:x.cps.size<=5)(hc:∀c∈x.cps.toList,48<=c/\c<=57)(g:H2 D=none)(k:∀a,Same H2 a->a D=some (.lst ((digits x).map V.int))->Q (.ref D) a):cF (kj x) (dc 0) bZ (jc (fun xs H Q=>∃x n,xs=[.str x]/\intText? x=some n/\x.length<=640/\Q (.int n) H) (cu (a' 0) cg)) [none] H2 D Q:=by
 refine wz (fun j σ ys a=>∃v,σ=[v]/\Same H2 a/\a D=some (.lst ys)/\ys=((digits x).take j).map V.int) ?_ ?_ ?_
 ·exact⟨none,rfl,Same.new g,al,rfl⟩
 ·rintro j σ ys a c h i hy ⟨v,rfl,f,d,rfl⟩
  have b:x.cps.toList[j]?=some c:=by simpa using h
  obtain⟨l,o⟩:=hc c (Ay b);refine cx ?_;refine⟨_,rfl,⟨#[c]⟩,_,rfl,Hk c l o,by show 1<=640;decide,bR (zb ω) i hy d ⟨_,rfl,f.then g,al,?_⟩⟩;have e:(digits x)[j]?=some ((c:Int)-48):=by unfold digits;rw[Ao,b];rfl
  rw[AX e,At];rfl
 ·rintro σ ys a ⟨v,rfl,f,d,rfl⟩
  rw[AD (by unfold digits;simp)] at d;exact k a f d
def Hm{f:Addr}{fd:FuncData}(F:Fun K "_law_known" "_law_known" pu f fd)(B:Bt mg):FnOk P w K mg base aE 1 f fd ["number"] B4:=by
 refine F.ok iX (fun vs H Q E h=>?_) (fun cdv A outer s H vs Q E hr h=>?_)
 ·obtain⟨n,rfl,_⟩:=h;rfl
 ·obtain⟨n,rfl,hn,k⟩:=h
  refine⟨_,za (zj (i:=1) iX.nd rfl (Or.inl rfl) (zN (af pe_str (af pe_str (af pe_str (af pe_str (af pe_str (af pe_str (af pe_str (af pe_str (af pe_str ao)))))))))))
   (za (zj (i:=1) iX.nd rfl (Or.inl rfl) (zq gg (pv 1) (zN (af pe_str (af pe_str (af pe_str (af pe_str ao)))))))
   (za (zj (i:=1) iX.nd rfl (Or.inl rfl) (zq gg (pv 1) (zN (af pe_str (af pe_str ao)))))
   (za (zj (i:=1) iX.nd rfl (Or.inl rfl) (zq gg (pv 1) (zN (af pe_str (af pe_str ao)))))
   (za (zj (i:=1) iX.nd rfl (Or.inl rfl) (zq gg (pv 1) (zN (af pe_str (af pe_str ao)))))
   (za (zR (zP AF PySem.F.slot_list_append PySem.F.type_list_append zT (pv 1) (af pe_str ao)))
   (za (zj (i:=2) iX.nd rfl (Or.inl rfl) (zN ao))
   (za (eu A2 rfl (zG (zP AK PySem.F.slot_str_split PySem.F.type_str_split jq (cA zM (pv 1) (zq i' (pv 0) zf) (fun _ _=>rfl)) (af pe_str ao))) (zr (i:=3) iX.nd rfl (Or.inl rfl))
    (zd (zI (zl ja (pv 3) pe_str (au _))
     (zd (zR (zP AF PySem.F.slot_list_append PySem.F.type_list_append zT (pv 2) (af (zt zZ rfl B.tuple mr (af
      (zw ["number","some","web","word"] ["sign"] [none] (oH (pv 3)) (fun u C s₀ H₀ ex=>zr (i:=0) (cW ["sign"]) rfl (Or.inl rfl)) (fun u C s₀ H₀ ex=>zL)
       (fun u C s₀ H₀ ex=>zt ol rfl B.int oV (af (pv 0) ao)) (hfr:=bK δ)) ao)) ao)))) zp)))
   (zd (zm (pv 2)))))))))),?_⟩
  have t20:texts.length=20:=rfl;have cI:ee (texts.map V.str) ((n:Int)%20)=some (.str (texts.getD n "")):=by
   rw[show(n:Int)%20=(n:Int) from ω];refine zC ?_;have e:texts[n]?=some texts[n]:=Af ω;rw[Ao,AQ,e];rfl
  obtain⟨g1,g2,g3⟩:=Hj n hn;refine⟨zb (by simp),fun U h1=>?_⟩;have s1:=Same.new (H:=H) (o:=.lst [.str "",.str "0",.str "01 12 02",.str "012 013 023 123",.str "01 02 03",.str "012 023 034 014",.str "0123",.str "01 23 45",.str "012 34"]) h1;refine⟨_,rfl,zb (by simp),fun W G=>⟨U,W,_,_,rfl,rfl,Same.new G _ _ al,al,zb (by simp),fun X h2=>?_⟩⟩;have s2:=(s1.trans (Same.new G)).trans (Same.new (o:=.lst ((texts.take 13).map V.str)) h2);refine⟨_,rfl,zb (by simp),fun Y I=>⟨X,Y,_,_,rfl,rfl,Same.new I _ _ al,al,zb (by simp),fun Z h3=>?_⟩⟩;have s3:=(s2.trans (Same.new I)).trans (Same.new (o:=.lst ((texts.take 15).map V.str)) h3);refine⟨_,rfl,zb (by simp),fun m3 J=>⟨Z,m3,_,_,rfl,rfl,Same.new J _ _ al,al,zb (by simp),fun l4 h4=>?_⟩⟩;have N:=(s3.trans (Same.new J)).trans (Same.new (o:=.lst ((texts.take 17).map V.str)) h4);refine⟨_,rfl,zb (by simp),fun m4 l=>⟨l4,m4,_,_,rfl,rfl,Same.new l _ _ al,al,zb (by simp),fun b L=>?_⟩⟩;have s5:=(N.trans (Same.new l)).trans (Same.new (o:=.lst ((texts.take 19).map V.str)) L);have pP:H b=none:=(N.trans (Same.new l)).free L;refine⟨_,rfl,.inl ⟨rfl,_,SqL.of al⟩,b,_,_,rfl,rfl,al,zK (by simp),zb (by simp),fun wl p=>?_⟩;generalize hH6:upd (upd _ b _) b _=H6 at p;have e6:H6 b=some (.lst (texts.map V.str)):=by rw[<-hH6,al];rfl
  have O:Same H H6:=by
   rw[<-hH6];exact s5.then pP
  have c:H wl=none:=O.free p;have S:Same H (upd H6 wl (.lst [])):=O.then c;have e7:upd H6 wl (.lst []) b=some (.lst (texts.map V.str)):=Same.new p _ _ e6;refine⟨_,rfl,_,rfl,_,_,rfl,rfl,(by show(0:Int)<20;decide),b,_,_,_,rfl,rfl,SqL.of e7,cI,rfl,_,_,rfl,rfl,ξ,zb ω,zb (show(wordsOf n).length<=100000 from ω),fun D M=>⟨D,rfl,⟨_,SqL.of al⟩,?_⟩⟩;have T:wl≠D:=zg (H:=upd H6 wl (.lst [])) al M;have cz:H D=none:=S.free M;refine gQ (K:=K) (a:=D) (xs:=(wordsOf n).map V.str) (fun i σ H2=>∃as v,σ=[some (.int n),some (.ref b),some (.ref wl),v]/\Same H H2/\H2 D=some (.lst ((wordsOf n).map V.str))/\H2 wl=some (.lst (as.map V.ref))/\Tps H2 as ((((wordsOf n).take i).filter fun(x:Str)=>!decide (x="")).map digits))
   ⟨[],none,rfl,S.then cz,al,by rw[zh T];exact al,.nil⟩ (fun i σ H2 _ ⟨_,_,_,_,q,_⟩=>SqL.of q) ?_ ?_
  ·rintro i x σ H2 hx ⟨as,v,rfl,j,r,d,ht⟩
   rw[Ao] at hx;cases ex:(wordsOf n)[i]? with
   |none=>rw[ex] at hx;cases hx
   |some y=>
    rw[ex] at hx;obtain rfl:=Ai hx;have hi:i<(wordsOf n).length:=(List.getElem?_eq_some_iff.mp ex).1;obtain⟨y5,yc⟩:=g3 y (Ay ex);refine⟨_,rfl,rfl,_,rfl,?_⟩
    by_cases hy:y=""
    ·subst hy
     refine aW ⟨as,_,rfl,j,r,d,?_⟩;rw[AX ex,List.filter_append,At]
     simpa using ht
    ·rw[show(!decide (V.str y=V.str ""))=true from by simp[hy]]
     refine aK ⟨_,rfl,.inl ⟨rfl,_,SqL.of d⟩,_,rfl,y,rfl,fun D2 rV=>zH (Hl y5 yc rV fun H3 aB ai=>⟨D2,_,rfl,.inl ⟨SqL.of ai,fun t eF=>?_⟩⟩)⟩;have g:Same H2 (upd H3 t (.tup ((digits y).map V.int))):=aB.trans (Same.new eF);have aQ:=ht.length;have gI:as.length<=20:=by
      rw[aQ,Ab];exact AA (List.length_filter_le _ _) (by rw[AV];omega)
     refine⟨wl,_,_,rfl,rfl,g _ _ d,zK (by rw[Ab];omega),⟨as++[t],_,rfl,(j.trans g).then c,?_,by rw[al,At];rfl,?_⟩⟩
     ·rw[zh T.symm];exact g _ _ r
     ·rw[AX ex,List.filter_append,At,show [y].filter (fun(x:Str)=>!decide (x=""))=[y] by simp[hy]]
      exact Tps.upd (Tps.snoc (g.tps ht) al) (g _ _ d) (by intro xs z;cases z)
  ·rintro σ H2 ⟨as,v,rfl,j,r,d,ht⟩
   rw[Ab,take_all] at ht;exact⟨_,rfl,k wl as H2 j c d ht⟩
def c0(first a:Int)(ps:List Int):List Int:=ps.map fun x=>first+a*x
def B5:Sp:=fun vs H Q _=>∃p l as a,vs=[.ref p,.ref l]/\zD H p/\H l=some (.lst (as.map V.ref))/\Tps H as a/\a.length<=20/\(∀ps∈a,ps.length<=10)/\
 ∀D bs c first b H',zy p H H'->zD H' p->H D=none->H' D=some (.lst (bs.map V.ref))->Tps H' bs c->0<=first->first<12->1<=b->b<=3->c.Perm (a.map (c0 first b))->Q (.ref D) H'
def mD:zo ["box","web","gap","first","found","piece"] ["box","web"] (ze mC):=⟨rfl,rfl,rfl,δ,rfl,δ,δ⟩
def Hn{H2:Hp}{a D:Addr}{ps:List Int}{first c:Int}{Q:VK}(l:Tp H2 a ps)(o:ps.length<=10)(p:1<=c/\c<=3)(g:H2 D=none)(k:∀b,Same H2 b->b D=some (.lst ((c0 first c ps).map V.int))->Q (.ref D) b):cF (iF K a) (dc 0) bZ (dZ (g_ fun i j=>.int (i+j)) (a' 1) (dZ (rI CMul fun i j=>.int (i*j)) (a' 2) (a' 0))) [none,some (.int first),some (.int c)] H2 D Q:=by
 refine yQ (xs:=ps.map V.int) (fun j σ ys b=>∃v,σ=[v,some (.int first),some (.int c)]/\Same H2 b/\b D=some (.lst ys)/\ys=((c0 first c ps).take j).map V.int) ?_ ?_ ?_ ?_
 ·exact⟨none,rfl,Same.new g,al,rfl⟩
 ·rintro j σ ys b ⟨v,rfl,d,f,rfl⟩
  exact SqT.of (d.tp l)
 ·rintro j σ ys b x hx h hy ⟨v,rfl,d,f,rfl⟩
  obtain⟨q,eq,rfl⟩:=kr hx;refine cx ?_;refine⟨_,rfl,_,rfl,_,rfl,_,_,rfl,rfl,.inl ⟨ω,ω⟩,_,_,rfl,rfl,bR (by rw[Ab];exact zb ω) h hy f ⟨_,rfl,d.then g,al,?_⟩⟩;have e:(c0 first c ps)[j]?=some (first+c*q):=by unfold c0;rw[Ao,eq];rfl
  rw[AX e,At];rfl
 ·rintro σ ys b ⟨v,rfl,d,f,rfl⟩
  rw[AD (by unfold c0;simp)] at f;exact k b d f
def Ho{f S:Addr}{fd T:FuncData}(F:Fun K "_law_named" "_law_named" mC f fd)(B:Bt mg)(Ft:Fun K "_law_take" "_law_take" kw S T)(U:Binds K T ["box","most"] [])(mt:mg "_law_take"=some (.ref S)):FnOk P w K mg base aE 2 f fd ["box","web"] B5:=by
 have W:FnOk P w K mg base aE 1 S T ["box","most"] iR:=pl Ft;refine F.ok mD (fun vs H Q E h=>?_) (fun cdv A outer s H vs Q E hr h=>?_)
 ·obtain⟨p,l,as,J,rfl,_⟩:=h;rfl
 ·obtain⟨p,l,as,J,rfl,hb,L,ht,dP,M,k⟩:=h
  refine⟨_,za (zj (i:=2) mD.nd rfl (Or.inr rfl) (zq ey zf (zu W hr rfl mt Ft.kp U .nil aw (af (pv 0) (af zf ao)))))
   (za (zj (i:=3) mD.nd rfl (Or.inr rfl) (zu W hr rfl mt Ft.kp U .nil aw (af (pv 0) (af zf ao))))
   (za (zj (i:=4) mD.nd rfl (Or.inl rfl) (zN ao))
   (za (eu A2 rfl (zG (pv 1)) (zr (i:=5) mD.nd rfl (Or.inl rfl))
    (zd (zR (zP AF PySem.F.slot_list_insert PySem.F.type_list_insert vS (pv 4)
     (af (zu W hr rfl mt Ft.kp U .nil aw (af (pv 0) (af (zq ey (zk zn rfl B.len cv (af (pv 4) ao)) zf) ao)))
     (af (zt zZ rfl B.tuple mr (af
      (zw ["box","web","gap","first","found","piece"] ["point","first","gap"] [none,some 3,some 2] (jJ (pv 5)) (fun X C s₀ H₀ ex=>zr (i:=0) (cW ["point","first","gap"]) rfl (Or.inl rfl)) (fun X C s₀ H₀ ex=>zL)
       (fun X C s₀ H₀ ex=>zq ey (pv 1) (zq i9 (pv 2) (pv 0))) (hfr:=gC (ze mC) δ)) ao)) ao))))))
   (zd (zm (pv 4)))))),?_⟩
  refine⟨_,rfl,p,3,rfl,hb,ξ,ξ,fun c H1 a1 a2 cX c5=>⟨_,_,rfl,rfl,?_⟩⟩;refine⟨_,rfl,p,12,rfl,c5,ξ,ξ,fun d H2 c1 c2 du Y=>⟨zb (by simp),fun D Z=>?_⟩⟩;have O:=cX.trans du;have y:H D=none:=O.free hb Y Z;have m_:l≠p:=hb.ne L;have aQ:=ht.length;refine⟨_,rfl,l,rfl,⟨_,SqL.of ((O.then y) _ _ m_ L)⟩,gQ (K:=K) (a:=l) (xs:=as.map V.ref) (fun i σ e=>∃bs b v,σ=[some (.ref p),some (.ref l),some (.int (1+c)),some (.int d),some (.ref D),v]/\zy p H e/\zD e p/\e D=some (.lst (bs.map V.ref))/\Tps e bs b/\b.Perm ((J.take i).map (c0 d (1+c))))
   ⟨[],[],none,rfl,O.then y,Y.new Z,al,.nil,List.Perm.nil⟩ (fun i σ e _ ⟨_,_,_,_,sb,_⟩=>SqL.of (sb _ _ m_ L)) ?_ ?_⟩
  ·rintro i x σ e hx ⟨bs,b,v,rfl,u,j,g,hq,hp⟩
   obtain⟨a,ea,rfl⟩:=eR hx;obtain⟨ps,N,cR⟩:=ht.get ea;have hi:i<J.length:=(List.getElem?_eq_some_iff.mp N).1;have iw:=hq.length;have hql:b.length=i:=by rw[hp.length_eq,Ab,AV];omega
   have o:D≠p:=j.ne g;refine⟨_,rfl,.inl ⟨rfl,_,SqL.of g⟩,_,rfl,_,rfl,D,_,rfl,.inl (SqL.of g),_,_,rfl,rfl,p,_,rfl,j,by rw[Ab];omega,by rw[Ab];omega,fun r H4 r0 uf q I=>?_⟩;rw[Ab] at uf;have i_:Tp H4 a ps:=(u.trans q).tp hb cR;refine⟨_,rfl,a,rfl,⟨_,SqT.of i_⟩,fun D2 bC=>zH (Hn i_ (M ps (Ay N)) ⟨ω,ω⟩ bC fun H5 cL dv=>⟨D2,_,rfl,.inl ⟨SqL.of dv,fun t eF=>?_⟩⟩)⟩;have G:Same H4 (upd H5 t (.tup ((c0 d (1+c) ps).map V.int))):=cL.trans (Same.new eF);have cC:=q _ _ o g;have hZ:=G _ _ cC;have fe:=I.same G;refine⟨D,_,r,_,rfl,rfl,hZ,r0,by rw[Ab];omega,zK (by rw[Ab];omega),⟨bs.take r.toNat++t::bs.drop r.toNat,b.take r.toNat++c0 d (1+c) ps::b.drop r.toNat,_,rfl,((u.trans q).trans (zy.of G)).then y,fe.upd o,?_,?_,?_⟩⟩
   ·rw[al,At,AE,List.map_take,List.map_drop]
   ·have tq:=G.tps (q.tps j hq)
    exact Tps.upd (Tps.append (tq.take _) (.cons al (tq.drop _))) hZ (by intro xs z;cases z)
   ·rw[AX N,At]
    have h1:(b.take r.toNat++c0 d (1+c) ps::b.drop r.toNat).Perm (c0 d (1+c) ps::b):=by
     have:=List.perm_middle (a:=c0 d (1+c) ps) (l₁:=b.take r.toNat) (l₂:=b.drop r.toNat)
     rwa [List.take_append_drop] at this
    exact h1.trans ((List.perm_append_singleton _ _).symm.trans (List.Perm.append_right _ hp))
  ·rintro σ e ⟨bs,b,v,rfl,u,j,g,hq,hp⟩
   rw[Ab,aQ,take_all] at hp;exact⟨_,rfl,k D bs b d (1+c) e u j y g hq c1 c2 ω ω hp⟩
end
abbrev js:Stmt:=top 54
def gS(seq:List Int):List (Key×V):=(dd seq).map fun n=>((Sum.inl n:Key),V.bl true)
def Hq(seq:List Int):(gS seq).length<=seq.length:=by unfold gS;rw[Ab];exact gl seq
def Hr(seq:List Int)(n:Int):putK (gS seq) (Sum.inl n) (.bl true)=gS (seq++[n]):=by
 unfold putK gS;rw[iq];have b:(((dd seq).map fun n=>((Sum.inl n:Key),V.bl true)).any fun a=>decide (a.1=Sum.inl n))=decide (n∈dd seq):=by
  rw[List.any_map]
  by_cases h:n∈dd seq
  ·rw[decide_eq_true h,List.any_eq_true]
   exact⟨n,h,by simp⟩
  ·rw[decide_eq_false h,List.any_eq_false]
   intro q hq;simp only[Function.comp,decide_eq_true_eq,Sum.inl.injEq];rintro rfl;exact h hq
 rw[b]
 by_cases h:n∈dd seq
 ·rw[decide_eq_true h,if_pos rfl,if_pos h,AC]
  refine AZ fun q hq=>?_;simp only[Function.comp];split<;>rfl
 ·rw[decide_eq_false h,if_neg (by simp),if_neg h,At]
  rfl
def Hs(seq:List Int):((gS seq).map fun a=>kV a.1)=(dd seq).map V.int:=by unfold gS;rw[AC];rfl
def Ht{c:List Int}(h1:c.Pairwise (·<=·))(h2:c.Nodup):aY c=true:=by
 rw[wC];intro i a b f hb;obtain⟨d,g⟩:=List.getElem?_eq_some_iff.mp f;obtain⟨e,h⟩:=List.getElem?_eq_some_iff.mp hb;have g1:=List.pairwise_iff_getElem.mp h1 i (i+1) d e ω;have g2:=List.pairwise_iff_getElem.mp h2 i (i+1) d e ω;rw[g,h] at g1 g2;omega
def iY(a:Ξ):Prop:=a.Nodup/\∀ps∈a,ps≠[]/\ps.length<=4/\aY ps=true/\∀x∈ps,0<=x/\x<=5
def Base(b:Ξ):Prop:=(∃n,n<20/\b=known n)\/(b.length<=5/\iY b)
def Drawn(c:Ξ):Prop:=∃b first a,Base b/\0<=first/\first<12/\1<=a/\a<=3/\c.Perm (b.map (c0 first a))
def Hu:∀n,n<20->(known n).length<=20/\∀ps∈known n,ps≠[]/\ps.length<=5:=δ
section
variable{P:Program}{w:World}{K:Ae}{mg:Str->Option Value}{base:Heap}
def B6:Sp:=fun vs H Q _=>∃p,vs=[.ref p]/\zD H p/\∀D bs a H',zy p H H'->zD H' p->H D=none->H' D=some (.lst (bs.map V.ref))->Tps H' bs a->Drawn a->Q (.ref D) H'
def kA:zo ["box","found","k","some","j","piece"] ["box"] (ze js):=⟨rfl,rfl,rfl,δ,rfl,δ,δ⟩
def Hv{f ft fn fk:Addr}{fd cT gM cM:FuncData}(F:Fun K "_law_web" "_law_web" js f fd)(B:Bt mg)(Ft:Fun K "_law_take" "_law_take" kw ft cT)(U:Binds K cT ["box","most"] [])(mt:mg "_law_take"=some (.ref ft))(Fn:Fun K "_law_named" "_law_named" mC fn gM)(bn:Binds K gM ["box","web"] [])(mn:mg "_law_named"=some (.ref fn))(Fk:Fun K "_law_known" "_law_known" pu fk cM)(bk:Binds K cM ["number"] [])(mk:mg "_law_known"=some (.ref fk)):FnOk P w K mg base aE 3 f fd ["box"] B6:=by
 have Gt:FnOk P w K mg base aE 1 ft cT ["box","most"] iR:=pl Ft;have Gn:FnOk P w K mg base aE 2 fn gM ["box","web"] B5:=Ho Fn B Ft U mt;have Gk:FnOk P w K mg base aE 1 fk cM ["number"] B4:=Hm Fk B;refine F.ok kA (fun vs H Q E h=>?_) (fun cdv A outer s H vs Q E hr h=>?_)
 ·obtain⟨p,rfl,_⟩:=h;rfl
 ·obtain⟨p,rfl,hb,k⟩:=h
  have hu:=hY hr;have aM:=hr.units;have l:Room 1 _:=hr.mono ξ;refine⟨_,za (zI (zl d_ (zu Gt l rfl mt Ft.kp U .nil aw (af (pv 0) (af zf ao))) zf (au _))
    (zd (zm (zu Gn hr rfl mn Fn.kp bn .nil aw (af (pv 0) (af (zu Gk l rfl mk Fk.kp bk .nil aw (af (zu Gt l rfl mt Ft.kp U .nil aw (af (pv 0) (af zf ao))) ao)) ao))))) zp)
   (za (zj (i:=1) kA.nd rfl (Or.inl rfl) (zN ao))
   (za (eu A2 rfl (sT rfl B.range (af (zu Gt l rfl mt Ft.kp U .nil aw (af (pv 0) (af zf ao))) ao)) (zr (i:=2) kA.nd rfl (Or.inl rfl))
    (za (zj (i:=3) kA.nd rfl (Or.inl rfl) E8)
    (za (eu A2 rfl (sT rfl B.range (af (zq ey zf (zu Gt l rfl mt Ft.kp U .nil aw (af (pv 0) (af zf ao)))) ao)) (zr (i:=4) kA.nd rfl (Or.inl rfl))
     (zd (jU hu (pv 3) (zu Gt l rfl mt Ft.kp U .nil aw (af (pv 0) (af zf ao))) fC rfl)))
    (za (zj (i:=5) kA.nd rfl (Or.inl rfl) (zt zZ rfl B.tuple mr (af (zk FY rfl B.sorted wD (af (zt (FS rfl) rfl B.list kq (af (pv 3) ao)) ao)) ao)))
    (zd (zI (zl (yW (in1_units aM)) (pv 5) (pv 1) (by with_unfolding_all rfl)) (zd (zR (zP AF PySem.F.slot_list_append PySem.F.type_list_append zT (pv 1) (af (pv 5) ao)))) zp))))))
   (zd (zm (zu Gn hr rfl mn Fn.kp bn .nil aw (af (pv 0) (af (pv 1) ao))))))),?_⟩
  refine⟨_,rfl,p,2,rfl,hb,ξ,ξ,fun r H1 r0 r1 cX c5=>⟨rfl,_,rfl,?_⟩⟩;refine bv (fun h1=>?_) (fun h1=>?_)
  ·refine⟨_,rfl,_,rfl,p,20,rfl,c5,ξ,ξ,fun n H2 n0 n1 du bz=>?_⟩
   obtain⟨m,rfl⟩:=Int.eq_ofNat_of_zero_le n0;refine⟨m,rfl,ω,fun D as H3 aB cz hD ht=>?_⟩;obtain⟨g1,g2⟩:=Hu m ω;have W:=(cX.trans du).trans (zy.of aB);have aP:=bz.same aB;refine⟨p,D,as,known m,rfl,aP,hD,ht,g1,fun ps hp=>by have:=(g2 ps hp).2;omega,fun D' bs aL first aI I J c eV cC S c1 c2 c3 c4 bA=>?_⟩;exact k D' bs aL I (W.trans J) c (W.free hb aP eV) cC S ⟨known m,first,aI,.inl ⟨m,ω,rfl⟩,c1,c2,c3,c4,bA⟩
  ·refine⟨zb (by simp),fun L hL=>?_⟩
   have hL0:H L=none:=cX.free hb c5 hL;refine⟨_,rfl,p,6,rfl,c5.new hL,ξ,ξ,fun r6 H3 a1 a2 W aP=>⟨r6,rfl,ω,ω,?_⟩⟩;have fO:L≠p:=zD.ne (as:=[]) (c5.new hL) al;have eQ:zy p H H3:=(cX.then hL0).trans W;refine s_ (lo:=0) (n:=r6.toNat) (fun i σ I=>∃as u v2 v3 M v5,σ=[some (.ref p),some (.ref L),v2,v3,M,v5]/\zy p H I/\zD I p/\I L=some (.lst (as.map V.ref))/\Tps I as u/\iY u/\u.length<=i)
    ⟨[],[],none,none,none,none,rfl,eQ,aP,W _ _ fO al,.nil,⟨List.nodup_nil,fun ps h=>nomatch h⟩,Ag _⟩ ?_ ?_
   ·rintro i σ I hi ⟨as,u,v2,v3,M,v5,rfl,J,c,iy,S,g,Y⟩
    have aQ:=S.length;intro d hd;have dH:H d=none:=J.free hb c hd;have qV:L≠d:=zg iy hd;refine⟨_,rfl,p,4,rfl,c.new hd,ξ,ξ,fun r4 H5 e1 e2 T c6=>⟨_,_,rfl,rfl,_,rfl,ω,ω,?_⟩⟩;have ki:d≠p:=by
     obtain⟨x,y,e,_⟩:=c.new (o:=.dK []) hd;exact dF al e (by intro z;cases z)
    have s4:=Same.new (o:=.dK []) hd;refine s_ (lo:=0) (n:=(1+r4).toNat) (fun j σ C=>∃seq M,σ=[some (.ref p),some (.ref L),some (.int (0+i)),some (.ref d),M,v5]/\zy p H C/\zD C p/\C L=some (.lst (as.map V.ref))/\Tps C as u/\C d=some (.dK (gS seq))/\seq.length=j/\∀x∈seq,0<=x/\x<=5)
     ⟨[],_,rfl,(J.then dH).trans T,c6,T _ _ fO (s4 _ _ iy),T.tps (c.new hd) (s4.tps S),T _ _ ki al,rfl,fun x h=>nomatch h⟩ ?_ ?_
    ·rintro j σ C hj ⟨seq,M,rfl,eY,fe,N,Z,gm,fh,iW⟩
     refine⟨_,rfl,_,rfl,p,6,rfl,fe,ξ,ξ,fun r H7 f1 f2 G jM=>⟨d,_,rfl,DPut.k (k:=Sum.inl r) (G _ _ ki gm) (zK (by have:=Hq seq;omega)),⟨seq++[r],_,rfl,(eY.trans G).then dH,jM.upd ki,?_,?_,by rw[al,Hr],by rw[Aq,fh];rfl,?_⟩⟩⟩
     ·rw[zh qV];exact G _ _ fO N
     ·exact Tps.upd (G.tps fe Z) (G _ _ ki gm) (by intro xs z;cases z)
     ·intro x hx
      rcases List.mem_append.mp hx with hx|hx
      ·exact iW x hx
      ·rw[List.mem_singleton] at hx;subst hx;omega
    ·rintro σ C ⟨seq,M,rfl,eY,fe,N,Z,gm,fh,iW⟩
     refine⟨_,rfl,d,_,rfl,gm,fun l2 bY=>⟨l2,dd seq,rfl,SqL.of (by rw[al,Hs]),(by have:=gl seq;omega),fun D2 q hp hs bC=>⟨D2,_,rfl,.inl ⟨SqL.of al,fun t eF=>?_⟩⟩⟩⟩;have v:Same C (upd (upd (upd C l2 (.lst ((gS seq).map fun kv=>kV kv.1))) D2 (.lst (q.map V.int))) t (.tup (q.map V.int))):=((Same.new bY).trans (Same.new bC)).trans (Same.new eF);generalize hH7:upd (upd (upd C l2 (.lst ((gS seq).map fun kv=>kV kv.1))) D2 (.lst (q.map V.int))) t (.tup (q.map V.int))=H7 at v;have mZ:Tp H7 t q:=by rw[<-hH7];exact al
     have G:=eY.trans (zy.of v);have jM:=fe.same v;refine⟨_,rfl,_,rfl,t,L,q,as,u,rfl,rfl,mZ,SqL.of (v _ _ N),v.tps Z,_,rfl,?_⟩;have ut:q≠[]/\q.length<=4/\aY q=true/\∀x∈q,0<=x/\x<=5:=by
      refine⟨fun z=>?_,?_,Ht hs (hp.nodup_iff.mpr (oE seq)),fun x hx=>iW x ((jn seq x).mp (hp.mem_iff.mp hx))⟩
      ·have h0:dd seq=[]:=by rw[z] at hp;exact(List.nil_perm.mp hp)
       cases hq:seq with
       |nil=>rw[hq] at fh;simp at fh;omega
       |cons x r=>
        have:=(jn seq x).mpr (by rw[hq];exact Am);rw[h0] at this;cases this
      ·have:=gl seq
       rw[hp.length_eq];omega
     by_cases O:q∈u
     ·rw[decide_eq_true O]
      exact aW ⟨as,u,_,_,_,_,rfl,G,jM,v _ _ N,v.tps Z,g,ω⟩
     ·rw[decide_eq_false O]
      refine aK ⟨_,rfl,.inl ⟨rfl,_,SqL.of (v _ _ N)⟩,_,rfl,L,_,_,rfl,rfl,v _ _ N,zK (by rw[Ab];omega),⟨as++[t],u++[q],_,_,_,_,rfl,G.then hL0,jM.upd fO,by rw[al,At];rfl,Tps.upd (Tps.snoc (v.tps Z) mZ) (v _ _ N) (by intro xs z;cases z),⟨?_,?_⟩,by rw[Aq];simp;omega⟩⟩
      ·rw[List.nodup_append]
       refine⟨g.1,by simp,fun a ha b X e=>?_⟩;rw[List.mem_singleton] at X;subst X;subst e;exact O ha
      ·intro ps cR
       rcases List.mem_append.mp cR with h|h
       ·exact g.2 ps h
       ·rw[List.mem_singleton] at h;subst h;exact ut
   ·rintro σ I ⟨as,u,v2,v3,M,v5,rfl,J,c,iy,S,g,Y⟩
    refine⟨_,rfl,_,rfl,p,L,as,u,rfl,c,iy,S,ω,fun ps hp=>by have:=(g.2 ps hp).2.1;omega,fun D' bs aL first aI H5 T c6 eV dv uQ c1 c2 c3 c4 bA=>?_⟩;exact k D' bs aL H5 (J.trans T) c6 (J.free hb c eV) dv uQ ⟨u,first,aI,.inr ⟨ω,g⟩,c1,c2,c3,c4,bA⟩
end
end K18
end
section
namespace K1
open PySem L2 STb
def B7:∀a b:List Int,HT.lexLt a b=true->HT.lexLt b a=false
 |[],[],h=>rfl
 |[],_::_,h=>rfl
 |_::_,[],h=>by rw[HT.yf] at h;exact absurd h As
 |x::xs,y::ys,h=>by
  rw[HT.zJ] at h ⊢
  by_cases e:x=y
  ·rw[if_pos e] at h;rw[if_pos e.symm];exact B7 xs ys h
  ·rw[if_neg e] at h;rw[if_neg (fun z=>e z.symm)]
   have:=of_decide_eq_true h;exact decide_eq_false ω
def B8:∀a b:List Int,HT.lexLt a b=false->HT.lexLt b a=false->a=b
 |[],[],_,_=>rfl
 |[],_::_,h,_=>by rw[HT.zX] at h;exact absurd h ξ
 |_::_,[],_,h=>by rw[HT.zX] at h;exact absurd h ξ
 |x::xs,y::ys,h,h'=>by
  rw[HT.zJ] at h h'
  by_cases e:x=y
  ·rw[if_pos e] at h;rw[if_pos e.symm] at h'
   rw[e,B8 xs ys h h']
  ·rw[if_neg e] at h;rw[if_neg (fun z=>e z.symm)] at h'
   have:=of_decide_eq_false h;have:=of_decide_eq_false h';omega
def j8:∀a b c:List Int,HT.lexLt b a=false->HT.lexLt c b=false->HT.lexLt c a=false
 |[],b,c,_,_=>by cases c with
  |nil=>rfl
  |cons _ _=>rfl
 |_::_,[],c,h,_=>by rw[HT.zX] at h;exact absurd h ξ
 |_::_,_::_,[],_,h=>by rw[HT.zX] at h;exact absurd h ξ
 |x::xs,y::ys,z::zs,h,h'=>by
  rw[HT.zJ] at h h' ⊢
  by_cases e:y=x
  ·rw[if_pos e] at h
   by_cases e2:z=y
   ·rw[if_pos e2] at h';rw[if_pos (e2.trans e)];exact j8 xs ys zs h h'
   ·rw[if_neg e2] at h';rw[if_neg ω]
    have:=of_decide_eq_false h';exact decide_eq_false ω
  ·rw[if_neg e] at h
   have h1:=of_decide_eq_false h
   by_cases e2:z=y
   ·rw[if_neg ω]
    exact decide_eq_false ω
   ·rw[if_neg e2] at h'
    have h2:=of_decide_eq_false h';rw[if_neg ω];exact decide_eq_false ω
def key(p:List Int):List Int:=(p.length:Int)::p
def kle(a b:List Int):Bool:=!HT.lexLt (key b) (key a)
def kD{a b:List Int}:kle a b=true↔HT.lexLt (key b) (key a)=false:=by unfold kle;simp
def canon(a:Ξ):Ξ:=(dd (a.flatMap parts)).mergeSort kle
def pw(a:Ξ):(canon a).Perm (dd (a.flatMap parts)):=List.mergeSort_perm _ _
def B9(d:Ξ):(canon d).Pairwise (fun a b=>kle a b=true):=by
 refine List.pairwise_mergeSort (fun a b c h1 h2=>?_) (fun a b=>?_) _
 ·rw[kD] at h1 h2 ⊢;exact j8 _ _ _ h1 h2
 ·rw[Bool.or_eq_true,kD,kD]
  cases h:HT.lexLt (key b) (key a) with
  |false=>exact .inl rfl
  |true=>exact .inr (B7 _ _ h)
def Hw{a:Ξ}{x:List Int}:x∈canon a↔x∈a.flatMap parts:=by rw[(pw a).mem_iff,jn]
def mG(a:Ξ):(canon a).Nodup:=(pw a).nodup_iff.mpr (oE _)
def wP(a:Ξ):(canon a).length=(dd (a.flatMap parts)).length:=(pw a).length_eq
def B_{l m:Ξ}(hp:l.Perm m)(h1:l.Pairwise (fun a b=>kle a b=true))(h2:m.Pairwise (fun a b=>kle a b=true)):l=m:=by
 refine List.Perm.eq_of_pairwise (fun a b _ _ g1 g2=>?_) h1 h2 hp;rw[kD] at g1 g2;have:=B8 _ _ g2 g1;unfold key at this;exact(List.cons.inj this).2
def canon_of{c l:Ξ}(hp:l.Perm (dd (c.flatMap parts)))(hs:l.Pairwise (fun a b=>HT.lexLt ((b.length:Int)::b) ((a.length:Int)::a)=false)):l=canon c:=
 B_ (hp.trans (pw c).symm) (hs.imp fun h=>kD.mpr h) (B9 c)
def pQ:∀(n:Nat)(p q:List Int),p.length=n->(q∈subs p↔q.Sublist p)
 |0,p,q,h=>by
  obtain rfl:=List.eq_nil_of_length_eq_zero h;show q∈[[]]↔_;simp
 |n+1,p,q,h=>by
  obtain⟨r,x,rfl⟩:∃r x,p=r++[x]:=by
   rcases List.eq_nil_or_concat p with e|⟨r,x,e⟩
   ·rw[e] at h;cases h
   ·exact⟨r,x,by rw[e,List.concat_eq_append]⟩
  have hr:r.length=n:=by simpa using h
  rw[wA,List.mem_append,pQ n r q hr,List.mem_map,List.sublist_append_iff];constructor
  ·rintro(h1|⟨y,hy,rfl⟩)
   ·exact⟨q,[],by simp,h1,List.nil_sublist _⟩
   ·exact⟨y,[x],rfl,(pQ n r y hr).mp hy,List.Sublist.refl _⟩
  ·rintro⟨a,d,rfl,b,c⟩
   cases c with
   |cons _ h=>
    obtain rfl:=List.sublist_nil.mp h;exact .inl (by simpa using b)
   |cons_cons _ h=>
    obtain rfl:=List.sublist_nil.mp h;exact .inr ⟨a,(pQ n r a hr).mpr b,rfl⟩
def mI{p q:List Int}:q∈parts p↔q≠[]/\q.Sublist p:=by
 obtain⟨t,e,ht⟩:=wB p;have hs:=pQ p.length p q rfl;rw[e] at hs;unfold parts;rw[e];show q∈t↔_;constructor
 ·intro h
  exact⟨ht q h,hs.mp (Av _ h)⟩
 ·rintro⟨h1,h2⟩
  rcases List.mem_cons.mp (hs.mpr h2) with h|h
  ·exact absurd h h1
  ·exact h
def pT:∀p:List Int,aY p=true↔p.Pairwise (·<·)
 |[]=>by simp[aY]
 |[a]=>by simp[aY]
 |a::b::r=>by
  have c:=pT (b::r);rw[show aY (a::b::r)=(decide (a<b)&&aY (b::r)) from rfl,AB,decide_eq_true_eq,c,List.pairwise_cons (a:=a)];constructor
  ·rintro⟨h1,h2⟩
   refine⟨fun x hx=>?_,h2⟩;rcases List.mem_cons.mp hx with rfl|hx
   ·exact h1
   ·have:=(List.pairwise_cons.mp h2).1 x hx
    omega
  ·rintro⟨h1,h2⟩
   exact⟨h1 b Am,h2⟩
def pU{p:List Int}:fJ p=true↔p≠[]/\p.length<=5/\(∀x∈p,0<=x/\x<=99)/\p.Pairwise (·<·):=by
 unfold fJ;simp only[AB,decide_eq_true_eq,List.all_eq_true,pT];constructor
 ·rintro⟨⟨⟨h1,h2⟩,a⟩,h4⟩
  exact⟨fun z=>by rw[z] at h1;simp at h1,h2,a,h4⟩
 ·rintro⟨h1,h2,a,h4⟩
  refine⟨⟨⟨?_,h2⟩,a⟩,h4⟩;cases p with
  |nil=>exact absurd rfl h1
  |cons _ _=>simp
def Hx{p q:List Int}(h:fJ p=true)(hq:q∈parts p):fJ q=true:=by
 rw[pU] at h ⊢;rw[mI] at hq;exact⟨hq.1,AA hq.2.length_le h.2.1,fun x hx=>h.2.2.1 x (hq.2.subset hx),h.2.2.2.sublist hq.2⟩
def Hy{a:Ξ}(h:a.Nodup)(hp:∀p∈a,fJ p=true):BG a a.length:=by
 intro i p hi e;refine⟨fun hm=>?_,hp p (Ay e)⟩;obtain⟨j,c⟩:=List.mem_iff_getElem?.mp hm;obtain⟨d,b⟩:=List.getElem?_eq_some_iff.mp c;rw[AV] at d;obtain⟨f,g⟩:=List.getElem?_eq_some_iff.mp e;have:=List.pairwise_iff_getElem.mp h j i ω f ω;rw[List.getElem_take] at b;exact this (b.trans g.symm)
def Hz{a:Ξ}(b:a.length<=20)(c:a.Nodup)(hp:∀p∈a,fJ p=true)(h:(dd (a.flatMap parts)).length<=200):bS a=true:=by
 rw[GG a b (Hy c hp),decide_eq_true h]
def wQ{a:Ξ}(h:bS a=true):a.length<=20/\(∀p∈a,fJ p=true)/\(∀p∈a,p.length<=5)/\(dd (a.flatMap parts)).length<=200:=by
 unfold bS at h;simp only[AB,decide_eq_true_eq,List.all_eq_true] at h;obtain⟨⟨⟨h1,h2⟩,c⟩,h4⟩:=h;have b:∀p∈a,fJ p=true:=fun p hp=>by rw[<-BF];exact h2 p hp
 exact⟨h1,b,fun p hp=>(pU.mp (b p hp)).2.1,h4⟩
def over(o p:List Int):Bool:=decide (p.length<o.length)&&p.all fun x=>decide (x∈o)
end K1
end
section
namespace K18
open K1
open PySem L2 STb
def HA(b:Ξ):Prop:=b.Nodup/\b.length<=17/\(∀ps∈b,ps≠[]/\ps.length<=5/\aY ps=true/\∀x∈ps,0<=x/\x<=7)/\(b.flatMap parts).length<=200
def HB:∀n,n<20->(known n).Nodup/\(known n).length<=17/\(∀ps∈known n,ps≠[]/\ps.length<=5/\aY ps=true/\∀x∈ps,0<=x/\x<=7)/\((known n).flatMap parts).length<=200:=δ
def Cd{m:Nat}:∀{b:Ξ},(∀ps∈b,(parts ps).length<=m)->(b.flatMap parts).length<=m*b.length
 |[],_=>by simp
 |p::r,h=>by
  have h1:=h p Am;have h2:=Cd (b:=r) fun q hq=>h q (Av _ hq);rw[List.flatMap_cons,Aq,Ap,Nat.mul_succ];omega
def HC{b:Ξ}(h:Base b):HA b:=by
 rcases h with ⟨n,a,rfl⟩|⟨d,hs⟩
 ·exact HB n a
 ·refine⟨hs.1,ω,fun ps hp=>?_,?_⟩
  ·obtain⟨h1,h2,c,h4⟩:=hs.2 ps hp
   exact⟨h1,ω,c,fun x hx=>by have:=h4 x hx;omega⟩
  ·have:=Cd (m:=15) (b:=b) fun ps hp=>by
    rw[kl];have h2:=(hs.2 ps hp).2.1;have:2 ^ ps.length<=2 ^ 4:=Nat.pow_le_pow_right ξ h2;omega
   omega
def HD{first a:Int}(b:1<=a){p q:List Int}(h:c0 first a p=c0 first a q):p=q:=by
 unfold c0 at h;refine(List.map_inj_right (f:=fun x=>first+a*x) (fun x y e=>?_)).mp h;have:a*x=a*y:=ω
 exact Int.eq_of_mul_eq_mul_left ω this
def HE{first f:Int}(i:0<=first)(h1:first<12)(j:1<=f)(l:f<=3){p:List Int}(h:p≠[]/\p.length<=5/\aY p=true/\∀x∈p,0<=x/\x<=7):fJ (c0 first f p)=true:=by
 obtain⟨a,b,c,d⟩:=h;rw[pU];unfold c0;refine⟨fun z=>a (List.map_eq_nil_iff.mp z),by rw[Ab];exact b,fun y hy=>?_,?_⟩
 ·obtain⟨x,hx,rfl⟩:=List.mem_map.mp hy
  have:=d x hx;have g:f=1\/f=2\/f=3:=ω
  rcases g with rfl|rfl|rfl<;>omega
 ·rw[pT] at c
  rw[List.pairwise_map];refine c.imp fun{x y} e=>?_;have:f*x<f*y:=Int.mul_lt_mul_of_pos_left e ω;omega
def HF{q:Ξ}(h:Drawn q):bS q=true/\q.Nodup/\q.length<=17:=by
 obtain⟨b,first,d,hb,f,h1,a,g,hp⟩:=h;obtain⟨n1,n2,i,j⟩:=HC hb;have l:q.length<=17:=by rw[hp.length_eq,Ab];exact n2
 have c:q.Nodup:=by
  rw[hp.nodup_iff];unfold List.Nodup at n1 ⊢;rw[List.pairwise_map];exact n1.imp fun{x y} e z=>e (HD a z)
 refine⟨Hz ω c (fun p hm=>?_) ?_,c,l⟩
 ·obtain⟨r,hr,rfl⟩:=List.mem_map.mp (hp.mem_iff.mp hm)
  exact HE f h1 a g (i r hr)
 ·refine AA (gl _) ?_
  rw[(hp.flatMap_right parts).length_eq];have:∀b:Ξ,((b.map (c0 first d)).flatMap parts).length=(b.flatMap parts).length:=by
   intro b
   induction b with
   |nil=>rfl
   |cons p r ih=>
    rw[AE,List.flatMap_cons,List.flatMap_cons,Aq,Aq,ih,kl,kl];unfold c0;rw[Ab]
  rw[this];exact j
end K18
end
section
namespace K1
open PySem L2 STb
def HG(q:List Int):Ξ:=if q.length=1 then [] else(List.range q.length).map fun k=>q.take k++q.drop (k+1)
def wR:∀(o p:List Int),o.Pairwise (·<·)->p.Pairwise (·<·)->(∀x∈p,x∈o)->p.Sublist o
 |[],p,_,_,h=>by
  cases p with
  |nil=>exact List.Sublist.slnil
  |cons a r=>exact absurd (h a Am) (by simp)
 |b::o,p,ho,hp,h=>by
  obtain⟨f,c⟩:=List.pairwise_cons.mp ho;cases p with
  |nil=>exact List.nil_sublist _
  |cons a r=>
   obtain⟨d,g⟩:=List.pairwise_cons.mp hp
   by_cases e:a=b
   ·subst e
    refine(wR o r c g fun x hx=>?_).cons_cons a;rcases List.mem_cons.mp (h x (Av _ hx)) with rfl|q
    ·have:=d x hx;omega
    ·exact q
   ·have i:a∈o:=by
     rcases List.mem_cons.mp (h a Am) with q|q
     ·exact absurd q e
     ·exact q
    have j:=f a i;refine(wR o (a::r) c hp fun x hx=>?_).cons b;rcases List.mem_cons.mp (h x hx) with q|q
    ·exfalso
     rcases List.mem_cons.mp hx with z|z
     ·omega
     ·have:=d x z;omega
    ·exact q
end K1
end
section
namespace K18
open K1
open PySem L2 STb
def HH:∀n,n<20->(dd ((known n).flatMap parts)).length<=56:=δ
def six:Ξ:=(parts [0,1,2,3,4,5]).filter fun q=>decide (q.length<=4)
def HI:six.length=56:=δ
def HJ{b:Ξ}(h:Base b):(dd (b.flatMap parts)).length<=56:=by
 rcases h with ⟨n,a,rfl⟩|⟨c,hs⟩
 ·exact HH n a
 ·rw[<-HI]
  refine(oE _).length_le_of_subset fun x hx=>?_;rw[jn,List.mem_flatMap] at hx;obtain⟨p,hp,hx⟩:=hx;obtain⟨_,h4,hr,hb⟩:=hs.2 p hp;rw[mI] at hx;have d:=hx.2.length_le;unfold six;rw[List.mem_filter,mI];refine⟨⟨hx.1,hx.2.trans (wR _ _ ξ ((pT p).mp hr) fun y hy=>?_)⟩,decide_eq_true ω⟩;have:=hb y hy;have:y=0\/y=1\/y=2\/y=3\/y=4\/y=5:=ω
  rcases this with rfl|rfl|rfl|rfl|rfl|rfl<;>decide
def HK{q:Ξ}(h:Drawn q):(dd (q.flatMap parts)).length<=56:=by
 obtain⟨b,first,d,hb,_,_,_,_,hp⟩:=h;refine AA ?_ (HJ hb);have e:((dd (b.flatMap parts)).map (c0 first d)).length=(dd (b.flatMap parts)).length:=Ab _;rw[<-e];refine(oE _).length_le_of_subset fun x hx=>?_;rw[jn,List.mem_flatMap] at hx;obtain⟨p,hm,hx⟩:=hx;obtain⟨r,hr,rfl⟩:=List.mem_map.mp (hp.mem_iff.mp hm);rw[mI] at hx;obtain⟨a,c⟩:=hx;unfold c0 at c;obtain⟨y,hy,rfl⟩:=List.sublist_map_iff.mp c;refine List.mem_map.mpr ⟨y,?_,rfl⟩;rw[jn,List.mem_flatMap];exact⟨r,hr,mI.mpr ⟨fun z=>a (by rw[z];rfl),hy⟩⟩
def cG(a:Ξ):Prop:=bS a=true/\(canon a).length<64
abbrev pV:Stmt:=top 25
abbrev pW:Stmt:=top 26
def wT{H:Hp}:∀{a:List (List Int×Addr)},(∀q∈a,Tp H q.2 q.1)->Tps H (a.map (·.2)) (a.map (·.1))
 |[],_=>.nil
 |q::r,h=>.cons (h q Am) (wT fun x hx=>h x (Av _ hx))
def Cf{H H2:Hp}{a:Ξ}{D:Addr}{b:List (List Int×Addr)}(t:Told H H2 a D b):∃bs,Same H H2/\H D=none/\H2 D=some (.lst (bs.map V.ref))/\Tps H2 bs (canon a):=by
 obtain⟨c,d,f,hq,hp,hs⟩:=t;have e:b.map (·.1)=canon a:=canon_of hp (List.pairwise_map.mpr hs);refine⟨b.map (·.2),c,d,by rw[f,AC];rfl,?_⟩;rw[<-e];exact wT hq
section
variable{P:Program}{w:World}{K:Ae}{mg:Str->Option Value}{base:Heap}
def Cj(K:Ae):Sp:=fun vs H Q _=>∃l as a,vs=[.ref l]/\SqL K H l (as.map V.ref)/\Tps H as a/\cG a/\∀D H2 bs,Same H H2->H D=none->H2 D=some (.lst (bs.map V.ref))->Tps H2 bs (canon a)->Q (.ref D) H2
def HL:zo ["web"] ["web"] (ze pW):=⟨rfl,rfl,rfl,δ,rfl,δ,δ⟩
def HM:zo ["web"] ["web"] (ze pV):=⟨rfl,rfl,rfl,δ,rfl,δ,δ⟩
def wU(K:Ae):Sp:=fun vs H Q _=>∃l as a,vs=[.ref l]/\SqL K H l (as.map V.ref)/\Tps H as a/\cG a/\∀H2,Same H H2->Q .non H2
def HN{f fw:Addr}{fd dS:FuncData}(F:Fun K "must_be_web" "must_be_web" pV f fd)(Fw:Fun K "is_web" "is_web" oM fw dS)(d:Binds K dS ["web"] [])(e:mg "is_web"=some (.ref fw))(g:FnOk P w K mg base aE 6 fw dS ["web"] (BR K)):FnOk P w K mg base aE 7 f fd ["web"] (wU K):=by
 refine F.ok HM (fun vs H Q E h=>?_) (fun cdv A outer s H vs Q E hr h=>?_)
 ·obtain⟨l,as,a,rfl,_⟩:=h;rfl
 ·obtain⟨l,as,a,rfl,c,ht,hw,k⟩:=h
  refine⟨_,zd (zI (fU (iE (zu g hr rfl e Fw.kp d .nil aw (af (pv 0) ao)))) sG zp),?_⟩;refine⟨_,rfl,l,as,a,rfl,c,ht,(fun _=>by rw[<-wP];exact hw.2),fun H1 b=>⟨_,rfl,?_⟩⟩;rw[hw.1];exact aW (k H1 b)
def HP{f fw fa:Addr}{fd dS d:FuncData}(F:Fun K "pieces" "pieces" pW f fd)(Fw:Fun K "must_be_web" "must_be_web" pV fw dS)(q:Binds K dS ["web"] [])(r:mg "must_be_web"=some (.ref fw))(x:FnOk P w K mg base aE 7 fw dS ["web"] (wU K))(Fa:Fun K "all_parts" "all_parts" sAll fa d)(u:Binds K d ["some"] [])(v:mg "all_parts"=some (.ref fa))(y:FnOk P w K mg base aE 5 fa d ["some"] (ms K)):FnOk P w K mg base aE 8 f fd ["web"] (Cj K):=by
 refine F.ok HL (fun vs H Q E h=>?_) (fun cdv A outer s H vs Q E hr h=>?_)
 ·obtain⟨l,as,b,rfl,_⟩:=h;rfl
 ·obtain⟨l,as,b,rfl,e,ht,hw,k⟩:=h
  have c:Room 5 _:=hr.mono ξ;refine⟨_,za (zR (zu x hr rfl r Fw.kp q .nil aw (af (pv 0) ao)))
   (zd (zm (zu y c rfl v Fa.kp u .nil aw (af (pv 0) ao)))),?_⟩
  obtain⟨g,_,i,_⟩:=wQ hw.1;refine⟨_,rfl,l,as,b,rfl,e,ht,hw,fun H1 a=>?_⟩;refine⟨_,rfl,l,as,b,rfl,a.seq e,a.tps ht,i,g,(by rw[<-wP];exact hw.2),fun D H2 z t=>?_⟩;obtain⟨bs,j,o,p,hb⟩:=Cf t;exact k D H2 bs (a.trans j) (a.free o) p hb
end
end K18
end
section
namespace STb
def HQ(ns:List Int):∀i,i<=ns.length->PyProof.Rows.firstMet (fun i=>ns.getD i 0) i=dd (ns.take i):=by
 intro i
 induction i with
 |zero=>intro _;simp[PyProof.Rows.firstMet,dd]
 |succ i ih=>
  intro hi;have hx:ns[i]?=some ns[i]:=Af ω;have a:ns.take (i+1)=ns.take i++[ns[i]]:=by rw[List.take_add_one,hx];rfl
  rw[PyProof.Rows.firstMet_succ,ih ω,a,iq];have b:ns.getD i 0=ns[i]:=by rw[AQ,hx];rfl
  rw[b];unfold PyProof.Rows.step_dedup
  by_cases q:ns[i]∈dd (ns.take i)
  ·rw[if_pos q];simp[q]
  ·rw[if_neg q];simp[q]
def iv{a:Type}[DecidableEq a](l:List a)(x:a):x∈dd l↔x∈l:=by
 suffices ∀(n:Nat),x∈dd (l.take n)↔x∈l.take n by simpa using this l.length
 intro n
 induction n with
 |zero=>simp[dd]
 |succ n ih=>
  rw[List.take_add_one];cases e:l[n]? with
  |none=>simpa[e] using ih
  |some y=>
   show x∈dd (l.take n++[y])↔x∈l.take n++[y];rw[iq]
   by_cases q:y∈dd (l.take n)
   ·rw[if_pos q,List.mem_append,List.mem_singleton,ih]
    exact⟨.inl,fun z=>z.elim id fun z=>by
     subst z;exact ih.mp q⟩
   ·rw[if_neg q,List.mem_append,List.mem_append,ih]
def HR{c:Type}[DecidableEq c](l:List c):(dd l).Nodup:=by
 suffices ∀(n:Nat),(dd (l.take n)).Nodup by simpa using this l.length
 intro n
 induction n with
 |zero=>simp[dd]
 |succ n ih=>
  rw[List.take_add_one];cases e:l[n]? with
  |none=>simpa[e] using ih
  |some y=>
   show(dd (l.take n++[y])).Nodup;rw[iq]
   by_cases q:y∈dd (l.take n)
   ·rw[if_pos q];exact ih
   ·rw[if_neg q,List.nodup_append]
    refine⟨ih,by simp,fun a d b hb=>?_⟩;rw[List.mem_singleton.mp hb];exact fun z=>q (z▸d)
def wV{f:Type}[DecidableEq f](l:List f):(dd l).length<=1↔∀x∈l,∀y∈l,x=y:=by
 constructor
 ·intro h x hx y hy
  have c:=(iv l x).mpr hx;have d:=(iv l y).mpr hy
  match hd:dd l,h,c,d with
  |[a],_,c,d=>rw[List.mem_singleton.mp c,List.mem_singleton.mp d]
  |a::b::r,h,_,_=>simp at h
 ·intro h
  have e:=HR l
  match hd:dd l with
  |[]=>simp
  |[a]=>simp
  |a::b::r=>
   rw[hd] at e;have:=h a ((iv l a).mp (by rw[hd];simp)) b ((iv l b).mp (by rw[hd];simp));subst this;simp at e
end STb
namespace L2
open PySem PySem.Spec PyProof.Rows
section
variable{X:Cx}
def HS(hc:X.calm=true):cE X (.type "set") (fun xs H Q=>∃(l:Addr)(ns:List Int),xs=[.ref l]/\SqL X.K H l (ns.map V.int)/\ns.length<1000/\
  ∀D S,H D=none->Q (.ref D) (upd H D (.set S (STb.dd ns).length))):=by
 intro aa s σ H xs us Q I r h;obtain⟨l,ns,rfl,hq,p,q⟩:=h;obtain⟨u,rfl,g⟩:=vals1 r;cases g;obtain⟨a,d,p1,_⟩:=I.list hq;have hi:=intsAre_of d;have j:a.length=ns.length:=by simpa using (Paired.length d).symm
 refine call_set_list (ns:=ns) (I.ok.hd hc) p1.isList (by simpa using hi) (by rw[Aj];unfold scanBound;omega) fun h' tk T f=>?_;have hsz:a.toArray.size=ns.length:=by rw[Aj];exact j
 have c:firstMet (fun i=>ns.getD i 0) a.toArray.size=STb.dd ns:=by rw[hsz,STb.HQ ns _ (Ag _),List.take_length]
 rw[c] at T;exact⟨.ref s⁻¹,_,I.laid (o:=.set _ (STb.dd ns).length) (fun b u e=>f b u (Ah e) e) (Ag _) (show Heap.SetOf _ _ _ _ _ from T),rfl,q _ _ (I.hok.fresh (Ag _))⟩
def HU:cE X (.builtin "len") (fun xs H Q=>∃D S n,xs=[.ref D]/\H D=some (.set S n)/\Q (.int n) H):=by
 intro aa s σ H xs us Q I r h;obtain⟨D,S,n,rfl,hq,q⟩:=h;obtain⟨u,rfl,a⟩:=vals1 r;cases a;obtain⟨o,es,ep,t,h1,h2,b,h4,f,c,d,e⟩:=(show s.heap.SetOf (intKind X.prog X.w) D S n from I.hok D _ hq);unfold scanBound at c;exact call_len_set h1 h2 b d ω ⟨.int n,H,I.tok _,⟨_,by rw[e]⟩,q⟩
end
end L2
end
section
namespace K1
open PySem L2 STb
def ci(kn:Ξ):List Int:=kn.map fun p=>(p.length:Int)
end K1
end
section
namespace L2
open PySem PySem.Spec PyProof.Rows
def Rd.same{H H':Hp}{a:Addr}{u:HO}(r:Rd H a u)(s:Same H H'):Rd H' a u:=by
 rcases r with r|⟨o,r⟩
 ·exact .inl (s _ _ r)
 ·exact .inr ⟨o,s _ _ r⟩
section
variable{X:Cx}{o:Expr}{to:TE}{aU az:Pos}
def HV(to:TE):TE:=fun σ H Q=>to σ H fun x H1=>zkk x [] H1 Q
def HW(i:PE X o to)(j:attributeBase o "values" X.env (eval o X.env)=eval o X.env:=by rfl)(l:(aU.endLine==az.line)=true:=by rfl):PE X (.Call (.Attribute o "values" aU) [] [] az) (HV to):=by
 intro aa s σ H Q I h;refine wpAny_Call_method0_late j l (aR (i aa s σ H _ I h) fun v b ⟨x,H1,I1,f,c⟩=>?_);have g:=c;obtain⟨d,kvs,rfl,_,hd,_⟩:=c;cases f;obtain⟨_,_,_,_,ob,_,_,e,ex,_⟩:=(show zA X.prog X.w H1 b.heap d (.dT kvs) from hd.ok I1.hok);exact⟨"dict","dict.values",PySem.F.plainAttrs_dict,PySem.F.slot_dict_values,PySem.F.type_dict_values,⟨ob,e,ex.1⟩,(fun a z=>by cases z;exact⟨ob,e,ex.2.1⟩),Calls.callWith_builtin rfl (PySem.evalArgs_none (gD aa b σ H1 (.ref d) [] (.ref d) [] Q I1 rfl .nil g))⟩
end
end L2
end
section
namespace K18
open K1
open PySem L2 STb
abbrev pX:Stmt:=top 28
abbrev ix:Stmt:=top 29
abbrev Ch:Type:=List (List Int×Int)
def ksC(cs:Ch):Ξ:=cs.map (·.1)
def bx(cs:Ch):List (List Key×V):=cs.map fun c=>((c.1.map Sum.inl:List Key),V.int c.2)
def putC(cs:Ch)(ps:List Int)(n:Int):Ch:=if ps∈ksC cs then cs.map (fun c=>if c.1=ps then(c.1,n) else c) else cs++[(ps,n)]
def mM(cs:Ch):(bx cs).length=cs.length:=Ab _
def jt(cs:Ch):(ksC cs).length=cs.length:=Ab _
def wW(cs:Ch):(bx cs).map (·.1)=(ksC cs).map (·.map Sum.inl):=by unfold bx ksC;rw[AC,AC];rfl
def HX(cs:Ch):(bx cs).map (·.2)=(cs.map (·.2)).map V.int:=by unfold bx;rw[AC,AC];rfl
def dj(cs:Ch)(ps:List Int)(n:Int):putK (bx cs) (ps.map Sum.inl) (.int n)=bx (putC cs ps n):=by
 unfold putK bx putC;have b:((cs.map fun c=>((c.1.map Sum.inl:List Key),V.int c.2)).any fun a=>decide (a.1=ps.map Sum.inl))=decide (ps∈ksC cs):=by
  rw[List.any_map]
  by_cases h:ps∈ksC cs
  ·rw[decide_eq_true h,List.any_eq_true]
   obtain⟨c,hc,e⟩:=List.mem_map.mp h;exact⟨c,hc,decide_eq_true (fG.mpr e)⟩
  ·rw[decide_eq_false h,List.any_eq_false]
   intro c hc;simp only[Function.comp,decide_eq_true_eq,fG];rintro rfl;exact h (List.mem_map.mpr ⟨c,hc,rfl⟩)
 rw[b]
 by_cases h:ps∈ksC cs
 ·rw[decide_eq_true h,if_pos rfl,if_pos h,AC,AC]
  refine AZ fun c hc=>?_;simp only[Function.comp]
  by_cases e:c.1=ps
  ·rw[if_pos e,if_pos (fG.mpr e)]
  ·rw[if_neg e,if_neg (fun z=>e (fG.mp z))]
 ·rw[decide_eq_false h,if_neg (by simp),if_neg h,At]
  rfl
def Ck(cs:Ch)(ps:List Int)(n:Int):ksC (putC cs ps n)=if ps∈ksC cs then ksC cs else ksC cs++[ps]:=by
 unfold putC
 by_cases h:ps∈ksC cs
 ·rw[if_pos h,if_pos h]
  unfold ksC;rw[AC];refine AZ fun c _=>?_;simp only[Function.comp];split<;>rfl
 ·rw[if_neg h,if_neg h]
  unfold ksC;rw[At]
  rfl
def eJ{cs:Ch}(ps:List Int)(n:Int)(h:(ksC cs).Nodup):(ksC (putC cs ps n)).Nodup:=by
 rw[Ck]
 by_cases e:ps∈ksC cs
 ·rw[if_pos e];exact h
 ·rw[if_neg e,List.nodup_append]
  refine⟨h,by simp,fun a c b hb z=>?_⟩;rw[List.mem_singleton] at hb;subst hb;subst z;exact e c
def putC_mem{cs:Ch}{ps q:List Int}{n:Int}(h:q∈ksC (putC cs ps n)):q∈ksC cs\/q=ps:=by
 rw[Ck] at h
 by_cases e:ps∈ksC cs
 ·rw[if_pos e] at h;exact .inl h
 ·rw[if_neg e] at h
  rcases List.mem_append.mp h with h|h
  ·exact .inl h
  ·exact .inr (List.mem_singleton.mp h)
def HY(cs:Ch)(ps:List Int)(n:Int):(putC cs ps n).length<=cs.length+1:=by
 unfold putC;split
 ·rw[Ab];omega
 ·rw[Aq];simp
def pY:∀{cs:Ch},(ksC cs).Nodup->∀c∈cs,bJ (bx cs) (c.1.map Sum.inl)=some (.int c.2)
 |[],_,c,hc=>absurd hc (by simp)
 |d::cs,h,c,hc=>by
  have h':(d.1::ksC cs).Nodup:=h;rw[List.nodup_cons] at h';unfold bJ bx;rw[AE,List.find?_cons];rcases List.mem_cons.mp hc with rfl|hc
  ·rw[decide_eq_true rfl];rfl
  ·have a:¬d.1.map Sum.inl=(c.1.map Sum.inl:List Key):=fun z=>h'.1 (by rw[fG.mp z];exact List.mem_map.mpr ⟨c,hc,rfl⟩)
   rw[decide_eq_false a];exact pY h'.2 c hc
def Co{H:Hp}{cs:Ch}{bs:List Addr}(h:Paired (fun(p:List Key×V) b=>H b=some (.tup (p.1.map kV))) (bx cs) bs):Tps H bs (ksC cs):=by
 unfold bx at h;unfold ksC
 induction cs generalizing bs with
 |nil=>cases h;exact .nil
 |cons x l ih=>
  rw[AE] at h;cases h with
  |cons r t=>
   refine .cons ?_ (ih t);show H _=_;rw[r,AC]
   rfl
def gF(kn:Ξ):Bool:=decide (((dd (ci kn)).length:Int)<=1)
abbrev kE(c:List Int×Int):Bool:=!decide (V.int c.2=V.int 0)
def dL(kn:Ξ)(cs:Ch):Bool:=decide (∀k∈ksC cs,k∈kn)&&(gF (ksC cs)&&(cs.map kE).all id)
abbrev HZ(K:Ae):List V->Hp->VK->Prop:=fun xs H Q=>∃p ys,xs=[.ref p]/\(SqL K H p ys\/SqT K H p ys)/\Q (.int ys.length) H
abbrev Cq(K:Ae):TE:=jc (HZ K) (cu (a' 0) cg)
section
variable{P:Program}{w:World}{K:Ae}{mg:Str->Option Value}{base:Heap}
def H0{H2:Hp}{L D:Addr}{as:List Addr}{kn:Ξ}{Q:VK}(i:SqL K H2 L (as.map V.ref))(ht:Tps H2 as kn)(l:kn.length<=1000)(d:H2 D=none)(k:∀a,Same H2 a->a D=some (.lst ((ci kn).map V.int))->Q (.ref D) a):cF (et K L) (dc 0) bZ (Cq K) [none] H2 D Q:=by
 have g:=ht.length;refine zV (xs:=as.map V.ref) (fun j σ ys a=>∃v:Option V,σ=[v]/\Same H2 a/\a D=some (.lst ys)/\ys=(ci (kn.take j)).map V.int) ?_ ?_ ?_ ?_
 ·exact⟨none,rfl,Same.new d,al,rfl⟩
 ·rintro j σ ys a ⟨v,rfl,b,c,rfl⟩
  exact b.seq i
 ·rintro j σ ys a x hx e hy ⟨v,rfl,b,c,rfl⟩
  obtain⟨o,f,rfl⟩:=eR hx;obtain⟨p,ep,hp⟩:=ht.get f;have h:(as.map V.ref).length<=sizeLine:=by rw[Ab];exact zb ω
  refine cx ?_;refine⟨_,rfl,o,_,rfl,.inr (SqT.of (b.tp hp)),bR h e hy c ⟨_,rfl,b.then d,al,?_⟩⟩;unfold ci;rw[AX ep,At,At,Ab]
  rfl
 ·rintro σ ys a ⟨v,rfl,b,c,rfl⟩
  rw[Ab,g,AD (Ag _)] at c;exact k a b c
def H_(kn:Ξ):(ci kn).length=kn.length:=Ab _
def Cr(K:Ae):Sp:=fun vs H Q _=>∃l as kn,vs=[.ref l]/\SqL K H l (as.map V.ref)/\Tps H as kn/\kn.length<1000/\∀H',Same H H'->Q (.bl (gF kn)) H'
def Ia:zo ["some"] ["some"] (ze ix):=⟨rfl,rfl,rfl,δ,rfl,δ,δ⟩
def Ib{f:Addr}{fd:FuncData}(F:Fun K "is_of_one_height" "is_of_one_height" ix f fd)(B:Bt mg):FnOk P w K mg base aE 1 f fd ["some"] (Cr K):=by
 refine F.ok Ia (fun vs H Q E h=>?_) (fun cdv A outer s H vs Q E hr h=>?_)
 ·obtain⟨l,as,kn,rfl,_⟩:=h;rfl
 ·obtain⟨l,as,kn,rfl,b,ht,j,k⟩:=h
  refine⟨_,zd (zm (hJ fW (zk HU rfl B.len cv (af (zt (HS rfl) rfl B.set oP (af
   (zw ["some"] ["piece"] [none] (zG (pv 0)) (fun a C s₀ H₀ ex=>zr (i:=0) (cW ["piece"]) rfl (Or.inl rfl)) (fun a C s₀ H₀ ex=>zL) (fun a C s₀ H₀ ex=>zk zn rfl B.len cv (af (pv 0) ao)) (hfr:=bK δ) (te:=Cq K)) ao)) ao)) zf (au _))),?_⟩
  refine⟨_,rfl,l,rfl,⟨_,b⟩,fun D c=>zH (H0 b ht ω c fun p d e=>⟨D,ci kn,rfl,SqL.of e,by rw[H_];exact j,fun S o g=>⟨S,o,_,rfl,al,_,_,rfl,rfl,k _ (d.trans (Same.new g))⟩⟩)⟩
end
abbrev p0:Stmt:=top 30
def zy.frz{d:Addr}{H H1 H2 f:Hp}(a:Same H H1)(b:∀c,c≠d->H2 c=H1 c)(e:Same H2 f):zy d H f:=fun c u hc h=>e _ _ (by rw[b c hc];exact a _ _ h)
section
variable{P:Program}{w:World}{K:Ae}{mg:Str->Option Value}{base:Heap}
def Ie{H2:Hp}{d D:Addr}{o:Obj}{cs:Ch}{Q:VK}(hd:H2 d=some (.frz o (.dT (bx cs))))(p:cs.length<=1000)(h:H2 D=none)(k:∀a,Same H2 a->a D=some (.lst ((cs.map kE).map V.bl))->Q (.ref D) a):cF (wH d o (bx cs)) (dc 0) bZ (dZ nN (a' 0) (tC (.int 0))) [none] H2 D Q:=by
 refine lZ cs.length (fun j σ ys a=>∃v:Option V,σ=[v]/\Same H2 a/\a D=some (.lst ys)/\ys=((cs.map kE).take j).map V.bl) ?_ ?_ ?_ ?_ ?_
 ·exact⟨none,rfl,Same.new h,al,rfl⟩
 ·rintro σ ys a ⟨v,rfl,b,c,rfl⟩
  exact⟨(mM cs).symm,b _ _ hd⟩
 ·rintro i σ ys a hi ⟨v,rfl,b,c,rfl⟩
  exact⟨by rw[mM];exact hi,b _ _ hd⟩
 ·rintro i σ ys a x H' hi hy ⟨v,rfl,b,c,rfl⟩ ⟨rfl,l,f,rfl⟩
  have g:cs[i]?=some cs[i]:=Af hi;have e:(cs.map kE)[i]?=some (kE cs[i]):=by rw[Ao,g];rfl
  obtain rfl:(((cs[i]).1.map Sum.inl:List Key),V.int (cs[i]).2)=l:=by
   unfold bx at f;rw[Ao,g] at f;exact Ai f
  refine cx ?_;exact⟨_,rfl,rfl,bR (zb ω) hi hy c ⟨_,rfl,b.then h,al,by rw[AX e,At];rfl⟩⟩
 ·rintro σ ys a ⟨v,rfl,b,c,rfl⟩
  rw[AD (by rw[Ab];exact Ag _)] at c;exact k a b c
def wX(K:Ae):Sp:=fun vs H Q _=>∃l d as a cs,vs=[.ref l,.ref d]/\SqL K H l (as.map V.ref)/\Tps H as a/\cG a/\(canon a).length<=59/\Rd H d (.dT (bx cs))/\cs.length<=(canon a).length+3/\cs.length<=59/\
 ∀H',zy d H H'->Rd H' d (.dT (bx cs))->Q (.bl (dL (canon a) cs)) H'
def Cu:zo ["web","chain","every"] ["web","chain"] (ze pX):=⟨rfl,rfl,rfl,δ,rfl,δ,δ⟩
def Ig{f fp I:Addr}{fd J M:FuncData}(F:Fun K "is_chain" "is_chain" pX f fd)(B:Bt mg)(Fp:Fun K "pieces" "pieces" pW fp J)(bp:Binds K J ["web"] [])(mp:mg "pieces"=some (.ref fp))(Gp:FnOk P w K mg base aE 8 fp J ["web"] (Cj K))(Fo:Fun K "is_of_one_height" "is_of_one_height" ix I M)(bo:Binds K M ["some"] [])(mo:mg "is_of_one_height"=some (.ref I))(Go:FnOk P w K mg base aE 1 I M ["some"] (Cr K)):FnOk P w K mg base aE 9 f fd ["web","chain"] (wX K):=by
 refine F.ok Cu (fun vs H Q E h=>?_) (fun cdv A outer s H vs Q E hr h=>?_)
 ·obtain⟨l,d,as,a,cs,rfl,_⟩:=h;rfl
 ·obtain⟨l,d,as,a,cs,rfl,hl,ht,hw,mq,hd,oF,cN,k⟩:=h
  have hu:=hY hr;have u:=hr.units;have v:Room 1 _:=hr.mono ξ;refine⟨_,za (zj (i:=2) Cu.nd rfl (Or.inl rfl) (zu Gp hr rfl mp Fp.kp bp .nil aw (af (pv 0) ao)))
   (za (zI (zl iH (zk G9 rfl B.len cv (af (zq (G8 u) (zt (G_ u) rfl B.set oP (af (pv 1) ao)) (zt (G7 rfl u) rfl B.set oP (af (pv 2) ao))) ao)) zf (au _)) (zd (zm fC)) zp)
   (za (zI (fU (iE (zu Go v rfl mo Fo.kp bo .nil aw (af (zt (BS rfl) rfl B.list kq (af (pv 1) ao)) ao)))) (zd (zm fC)) zp)
   (zd (zm (zk (oj rfl) rfl B.all oO (af
    (zw ["web","chain","every"] ["weight"] [none] (GU (HW (pv 1))) (fun N C s₀ H₀ ex=>zr (i:=0) (cW ["weight"]) rfl (Or.inl rfl)) (fun N C s₀ H₀ ex=>zL)
     (fun N C s₀ H₀ ex=>hJ ja (pv 0) zf (au _)) (hfr:=bK δ) (te:=dZ nN (a' 0) (tC (.int 0)))) ao)))))),?_⟩
  refine⟨_,rfl,l,as,a,rfl,hl,ht,hw,fun EV H1 es O vN o6 S=>?_⟩;have y:(canon a).Nodup:=mG a;have hle:(canon a).length<=(dd (canon a)).length:=y.length_le_of_subset fun x hx=>(iv _ x).mpr hx;have wp:(dd (ksC cs)).length<=cs.length:=by have:=gl (ksC cs);rw[jt] at this;exact this
  refine⟨_,rfl,d,bx cs,ksC cs,rfl,hd.same O,wW cs,by rw[jt];exact cN,fun q ue S1 c=>⟨_,rfl,EV,es,canon a,rfl,SqL.of (Same.new c _ _ o6),(Same.new c).tps S,mq,fun S2 g=>?_⟩⟩;refine⟨S1,S2,_,_,q,_,rfl,rfl,Same.new g _ _ al,al,(ue.mono (Same.new c)).mono (Same.new g),(TB.zip ((Same.new c).tps S)).mono (Same.new g),ω,ω,fun j T Z jI=>⟨Z,j,q,rfl,al,_,_,rfl,rfl,_,rfl,?_⟩⟩;have p:=((O.trans (Same.new (o:=b7 P w S1 (dd (ksC cs)) q) c)).trans (Same.new (o:=b7 P w S2 (dd (canon a)) ((canon a).zip es)) g)).trans (Same.new (o:=b7 P w Z j q) jI);refine bv (fun h1=>?_) (fun h1=>?_)
  ·have h2:=of_decide_eq_true h1
   have G:¬∀k∈ksC cs,k∈canon a:=fun z=>by
    cases j with
    |nil=>simp at h2
    |cons x r=>
     obtain⟨g1,g2⟩:=(T x).mp Am;exact g2 ((iv _ x).mpr (z x ((iv _ x).mp g1)))
   have:=k _ (zy.of p) (hd.same p);rw[show dL (canon a) cs=false from by unfold dL;rw[decide_eq_false G];rfl] at this;exact this
  ·have b:∀k∈ksC cs,k∈canon a:=fun x hx=>by
    refine Classical.byContradiction fun hn=>?_;have:x∈j:=(T x).mpr ⟨(iv _ x).mpr hx,fun z=>hn ((iv _ x).mp z)⟩;refine h1 (decide_eq_true ?_);have:=List.length_pos_of_mem this;omega
   refine⟨_,rfl,d,bx cs,rfl,hd.same p,fun bs pb L U=>⟨L,bs,ksC cs,rfl,SqL.of al,(Same.new U).tps (Co pb),by rw[jt];omega,fun H5 cL=>⟨_,rfl,?_⟩⟩⟩;have e:=(p.trans (Same.new (o:=.lst (bs.map V.ref)) U)).trans cL;cases ho:gF (ksC cs) with
   |false=>
    have:=k H5 (zy.of e) (hd.same e);rw[show dL (canon a) cs=false from by unfold dL;rw[decide_eq_true b,ho];rfl] at this;exact aK this
   |true=>
    refine aW ?_;refine⟨_,rfl,d,bx cs,rfl,rfl,hd.same e,fun vw W=>⟨vw,d,bx cs,rfl,al,hd.same (e.trans (Same.new W)),fun o H6 X gz=>fun D hD=>zH (Ie X ω hD fun H7 Y u7=>⟨D,cs.map kE,rfl,SqL.of u7,?_⟩)⟩⟩;have:=k H7 (zy.frz (e.trans (Same.new W)) gz Y) (.inr ⟨o,Y _ _ X⟩);unfold dL at this;rw[decide_eq_true b,ho,Bool.true_and,Bool.true_and] at this;exact this
def Cv(K:Ae):Sp:=fun vs H Q _=>∃l d as a cs,vs=[.ref l,.ref d]/\SqL K H l (as.map V.ref)/\Tps H as a/\cG a/\(canon a).length<=59/\Rd H d (.dT (bx cs))/\cs.length<=(canon a).length+3/\cs.length<=59/\dL (canon a) cs=true/\
 ∀H',zy d H H'->Rd H' d (.dT (bx cs))->Q .non H'
def Ih:zo ["web","chain"] ["web","chain"] (ze p0):=⟨rfl,rfl,rfl,δ,rfl,δ,δ⟩
def Ii{f a:Addr}{fd b:FuncData}(F:Fun K "must_be_chain" "must_be_chain" p0 f fd)(Fi:Fun K "is_chain" "is_chain" pX a b)(o:Binds K b ["web","chain"] [])(p:mg "is_chain"=some (.ref a))(q:FnOk P w K mg base aE 9 a b ["web","chain"] (wX K)):FnOk P w K mg base aE 10 f fd ["web","chain"] (Cv K):=by
 refine F.ok Ih (fun vs H Q E h=>?_) (fun cdv A outer s H vs Q E hr h=>?_)
 ·obtain⟨l,d,as,c,cs,rfl,_⟩:=h;rfl
 ·obtain⟨l,d,as,c,cs,rfl,i,ht,hw,j,hd,h1,h2,hc,k⟩:=h
  refine⟨_,zd (zI (fU (iE (zu q hr rfl p Fi.kp o .nil aw (af (pv 0) (af (pv 1) ao))))) sG zp),?_⟩;refine⟨_,rfl,_,rfl,l,d,as,c,cs,rfl,i,ht,hw,j,hd,h1,h2,fun H1 e g=>⟨_,rfl,?_⟩⟩;rw[hc];exact aW (k H1 e g)
end
abbrev wY:Stmt:=top 55
def Wt(a:Int)(c:List Int×Int):Prop:=(c.1.length:Int)=a+1/\c.2≠0/\-1000000000000000<=c.2/\c.2<=1000000000000000
def putC_at{cs:Ch}{ps:List Int}{n:Int}{c:List Int×Int}(h:c∈putC cs ps n):c∈cs\/c=(ps,n):=by
 unfold putC at h;split at h
 ·obtain⟨d,hd,e⟩:=List.mem_map.mp h
  by_cases z:d.1=ps
  ·rw[if_pos z] at e
   exact .inr (by rw[<-e,z])
  ·rw[if_neg z] at e
   exact .inl (by rw[<-e];exact hd)
 ·rcases List.mem_append.mp h with h|h
  ·exact .inl h
  ·exact .inr (List.mem_singleton.mp h)
def Ij{r:Int}(a:0<=r)(h1:r<3):∃wd:Int,ee ([.int 3,.int 20,.int (10 ^ (15:Int).toNat)]:List V) r=some (.int wd)/\0<wd/\wd<=1000000000000000:=by
 have:r=0\/r=1\/r=2:=ω
 rcases this with rfl|rfl|rfl
 ·exact⟨3,zC (j:=0) rfl,ξ,ξ⟩
 ·exact⟨20,zC (j:=1) rfl,ξ,ξ⟩
 ·exact⟨_,zC (j:=2) rfl,ξ,ξ⟩
section
variable{P:Program}{w:World}{K:Ae}{mg:Str->Option Value}{base:Heap}
def Cy(K:Ae):Sp:=fun vs H Q _=>∃p b ks kn a,vs=[.ref p,.ref b,.int a]/\zD H p/\H b=some (.lst (ks.map V.ref))/\Tps H ks kn/\kn.length<=1000/\
 ∀D cs H',zy p H H'->zD H' p->H D=none->H' D=some (.dT (bx cs))->(ksC cs).Nodup->(∀q∈ksC cs,q∈kn)->cs.length<=kn.length->(∀c∈cs,Wt a c)->Q (.ref D) H'
def mR:zo ["box","known","high","found","piece","wide","weight"] ["box","known","high"] (ze wY):=⟨rfl,rfl,rfl,δ,rfl,δ,δ⟩
def Il{f ft:Addr}{fd cT:FuncData}(F:Fun K "_law_chain" "_law_chain" wY f fd)(B:Bt mg)(Ft:Fun K "_law_take" "_law_take" kw ft cT)(bt:Binds K cT ["box","most"] [])(mt:mg "_law_take"=some (.ref ft)):FnOk P w K mg base aE 2 f fd ["box","known","high"] (Cy K):=by
 have Gt:FnOk P w K mg base aE 1 ft cT ["box","most"] iR:=pl Ft;refine F.ok mR (fun vs H Q E h=>?_) (fun cdv A outer s H vs Q E hr h=>?_)
 ·obtain⟨p,v,ks,kn,aA,rfl,_⟩:=h;rfl
 ·obtain⟨p,v,ks,kn,aA,rfl,hb,W,cn,hz,k⟩:=h
  have hu:=hY hr;have aM:=hr.units;have l:Room 1 _:=hr.mono ξ;refine⟨_,za (zj (i:=3) mR.nd rfl (Or.inl rfl) jW)
   (za (eu A2 rfl (zG (pv 1)) (zr (i:=4) mR.nd rfl (Or.inl rfl))
    (zd (zI (PW.pt (sr (zl d_ (zk zn rfl B.len cv (af (pv 4) ao)) (zq ey (pv 2) zf) (au _)) (sk (zl iH (zu Gt l rfl mt Ft.kp bt .nil aw (af (pv 0) (af zf ao))) zf (au _)))))
     (za (zj (i:=5) mR.nd rfl (Or.inl rfl) (cA zM (zN (af zf (af zf (af (zq lm zf zf) ao)))) (zu Gt l rfl mt Ft.kp bt .nil aw (af (pv 0) (af zf ao))) (fun _ _=>rfl)))
     (za (zj (i:=6) mR.nd rfl (Or.inl rfl) (zq xV (zu Gt l rfl mt Ft.kp bt .nil aw (af (pv 0) (af (zq ey (zq i9 zf (pv 5)) zf) ao))) (pv 5)))
     (zd (zI (zl ja (pv 6) zf (au _)) (zd (jU hu (pv 3) (pv 4) (pv 6) rfl)) zp)))) zp)))
   (zd (zm (pv 3)))),?_⟩
  intro D N;have aQ:=cn.length;have U:=Same.new (o:=.dT []) N;have jP:v≠D:=zg W N;have g:D≠p:=by
   obtain⟨x,y,e,_⟩:=hb;exact(zg e N).symm
  have u:v≠p:=hb.ne W;refine⟨_,rfl,v,rfl,⟨_,SqL.of (U _ _ W)⟩,gQ (K:=K) (a:=v) (xs:=ks.map V.ref) (fun i σ H2=>∃(cs:Ch)(v4 v5 v6:Option V),σ=[some (.ref p),some (.ref v),some (.int aA),some (.ref D),v4,v5,v6]/\zy p H H2/\zD H2 p/\H2 v=some (.lst (ks.map V.ref))/\Tps H2 ks kn/\H2 D=some (.dT (bx cs))/\(ksC cs).Nodup/\(∀q∈ksC cs,q∈kn)/\cs.length<=i/\∀c∈cs,Wt aA c)
   ⟨[],none,none,none,rfl,zy.of U,hb.same U,U _ _ W,U.tps cn,al,List.nodup_nil,(fun q hq=>nomatch hq),Ag _,(fun c hc=>nomatch hc)⟩ (fun i σ H2 _ ⟨_,_,_,_,_,_,_,h,_⟩=>SqL.of h) ?_ ?_⟩
  ·rintro i x σ H2 hx ⟨cs,v4,v5,v6,rfl,T,I,jm,X,Y,J,b,d,M⟩
   obtain⟨a,ea,rfl⟩:=eR hx;obtain⟨ps,cp,cR⟩:=X.get ea;have hi:i<kn.length:=(List.getElem?_eq_some_iff.mp cp).1;have kU:ps∈kn:=Ay cp;refine⟨_,rfl,a,_,rfl,.inr (SqT.of cR),_,rfl,_,_,rfl,rfl,rfl,_,rfl,?_⟩;refine bv (fun Z=>?_) (fun _=>?_)
   ·refine⟨_,rfl,p,3,rfl,I,ξ,ξ,fun r H3 r0 r1 C O=>⟨_,_,rfl,rfl,_,rfl,?_⟩⟩
    have oz:=C _ _ u jm;have iG:=C.tps I X;have ai:=C _ _ g Y;have kJ:=C.tp I cR;refine bv (fun _=>?_) (fun _=>?_)
    ·refine⟨_,_,rfl,rfl,⟨ξ,ξ,ξ⟩,zb (by simp),fun L hL=>?_⟩
     have j:=Same.new (o:=.lst [.int 3,.int 20,.int (10 ^ (15:Int).toNat)]) hL;have fO:L≠p:=by
      obtain⟨x,y,e,_⟩:=O;exact(zg e hL).symm
     refine⟨_,rfl,p,3,rfl,O.same j,ξ,ξ,fun q H5 q0 q1 G c6=>?_⟩;obtain⟨wd,ew,w0,w1⟩:=Ij q0 q1;refine⟨L,_,q,_,rfl,rfl,SqL.of (G _ _ fO al),ew,?_⟩;have rQ:=G _ _ u (j _ _ oz);have mJ:=G.tps (O.same j) (j.tps iG);have dv:=G _ _ g (j _ _ ai);have c_:=G.tp (O.same j) (j.tp kJ);have lV:zy p H H5:=((T.trans C).trans (zy.of j)).trans G;refine⟨_,rfl,_,rfl,_,_,rfl,rfl,.inl ⟨ξ,ξ⟩,_,_,rfl,rfl,p,_,rfl,c6,ω,ω,fun t H6 t0 t1 S fe=>⟨_,rfl,_,_,rfl,rfl,?_⟩⟩;have ny:=S _ _ u rQ;have jg:=S.tps c6 mJ;have hZ:=S _ _ g dv;have l0:=S.tp c6 c_;have i6:=lV.trans S;refine⟨_,rfl,rfl,_,rfl,?_⟩;refine bv (fun hw0=>?_) (fun _=>?_)
     ·refine⟨_,rfl,_,rfl,_,rfl,D,_,rfl,DPut.t (k:=ps.map Sum.inl) hZ (by rw[AC];exact l0) (by rw[mM];exact zK ω),⟨putC cs ps (t-wd),_,_,_,rfl,i6.then N,fe.upd g,by rw[zh jP];exact ny,Tps.upd jg hZ (by intro xs z;cases z),by rw[al,dj],eJ _ _ J,fun q hq=>?_,by have:=HY cs ps (t-wd);omega,fun c hc=>?_⟩⟩
      rcases putC_mem hq with h|rfl
      ·exact b q h
      ·exact kU
      ·rcases putC_at hc with h|rfl
       ·exact M c h
       ·have e1:=of_decide_eq_true Z
        injection e1 with e1
        rw[Ab] at e1;refine⟨e1,?_,by show -1000000000000000<=t-wd;omega,by show t-wd<=1000000000000000;omega⟩;intro z;have z':t-wd=0:=z;have nD:(!decide (V.int (t-wd)=V.int 0))=true:=hw0;rw[z'] at nD;exact absurd nD ξ
     ·exact⟨cs,_,_,_,rfl,i6,fe,ny,jg,hZ,J,b,ω,M⟩
    ·exact⟨cs,_,_,_,rfl,T.trans C,O,oz,iG,ai,J,b,ω,M⟩
   ·refine aW ?_
    exact⟨cs,_,_,_,rfl,T,I,jm,X,Y,J,b,ω,M⟩
  ·rintro σ H2 ⟨cs,v4,v5,v6,rfl,T,I,jm,X,Y,J,b,d,M⟩
   rw[Ab,aQ] at d;exact⟨_,rfl,k D cs H2 T I N Y J b d M⟩
end
end K18
end
section
namespace L2
open PySem PySem.Spec PyProof.Rows
def Cz:∀{ws:List Str}{a:List Value},Vals (ws.map V.str) a->∃l:List (Str×Tok),strValues l=a/\l.map (fun x=>x.1)=ws
 |[],_,.nil=>⟨[],rfl,rfl⟩
 |x::ws,_,.cons r t=>by
  obtain⟨tk,rfl⟩:=r;obtain⟨l,e1,e2⟩:=Cz t;exact⟨(x,tk)::l,by rw[<-e1];rfl,by rw[<-e2];rfl⟩
section
variable{X:Cx}
def rJoin(K:Ae):V->List V->Hp->VK->Prop:=fun x vs H Q=>∃sep l ws,x=.str sep/\vs=[.ref l]/\SqL K H l (List.map V.str ws)/\JoinOk sep ws=true/\Q (.str (Txt.join sep ws)) H
def ju:jT X "str.join" (rJoin X.K):=by
 intro aa s σ H x vs v us Q I a b h;obtain⟨sep,l,ws,rfl,rfl,c,d,q⟩:=h;obtain⟨t,rfl⟩:=a;obtain⟨u,rfl,e⟩:=b.one;cases e;obtain⟨f,r,p,_⟩:=I.list c;obtain⟨ls,e1,e2⟩:=Cz r;refine SC.join (l:=ls) (by rw[e1];exact p.isList) e2 d fun t' k=>⟨.str _,H,I.tok _,⟨t',rfl⟩,q⟩
end
end L2
end
section
namespace Tx
open PySem PySem.Builtin.Str PyProof.Rows
def CA{c:Nat}:∀{u w U W:List Nat},c∉u->c∉w->u++c::U=w++c::W->u=w/\U=W
 |[],[],_,_,_,_,h=>⟨rfl,by injection h⟩
 |[],y::w,_,_,_,hw,h=>by
  injection h with h1 _
  exact absurd (h1▸Am) hw
 |x::u,[],_,_,hu,_,h=>by
  injection h with h1 _
  exact absurd (h1▸Am) hu
 |x::u,y::w,_,_,hu,hw,h=>by
  injection h with h1 h2
  obtain⟨e1,e2⟩:=CA (fun m=>hu (Av _ m)) (fun m=>hw (Av _ m)) h2;exact⟨by rw[h1,e1],e2⟩
def db{c:Nat}(x y:Str)(r:List Str):(Str.join ⟨#[c]⟩ (x::y::r)).cps.toList=x.cps.toList++c::(Str.join ⟨#[c]⟩ (y::r)).cps.toList:=by
 rw[join_cons_cons,cps_toList_append,cps_toList_append];simp
def CB{c:Nat}:∀{us ws:List Str},us≠[]->ws≠[]->(∀t∈us,c∉t.cps.toList)->(∀t∈ws,c∉t.cps.toList)->(Str.join ⟨#[c]⟩ us).cps.toList=(Str.join ⟨#[c]⟩ ws).cps.toList->us=ws
 |[],_,h,_,_,_,_=>absurd rfl h
 |_,[],_,h,_,_,_=>absurd rfl h
 |[u],[w],_,_,_,_,h=>by
  rw[join_one,join_one] at h;have:u=w:=Str.ext' (Array.toList_inj.mp h);rw[this]
 |[u],w::w2::r,_,_,hu,_,h=>by
  rw[join_one,db] at h;exact absurd (h▸AI _ Am) (hu u Am)
 |u::u2::r,[w],_,_,_,hw,h=>by
  rw[join_one,db] at h;exact absurd (h.symm▸AI _ Am) (hw w Am)
 |u::u2::r,w::w2::q,_,_,hu,hw,h=>by
  rw[db,db] at h;obtain⟨e1,e2⟩:=CA (hu u Am) (hw w Am) h;have e3:=CB (List.cons_ne_nil _ _) (List.cons_ne_nil _ _) (fun t m=>hu t (Av _ m)) (fun t m=>hw t (Av _ m)) e2;have a:u=w:=Str.ext' (Array.toList_inj.mp e1);rw[e3,a]
def kF(x y:Str):Al x y≠[]:=by
 unfold Al;split
 ·simp
 ·split
  ·simp
  ·rw[StrLaws.partsBetween_eq]
   obtain⟨p,r,e⟩:=StrLaws.partsFrom_ne x y.length 0 (occurrences x y 0 x.length (x.length+1));rw[e];simp
def p5{c:Nat}{ws:List Str}(a:ws≠[])(h:∀t∈ws,c∉t.cps.toList):Al (Txt.join ⟨#[c]⟩ ws) ⟨#[c]⟩=ws:=by
 rw[show Txt.join ⟨#[c]⟩ ws=Str.join ⟨#[c]⟩ ws from StrLaws.glued_eq_join _ _];refine CB (kF _ _) a (StrLaws.split_free _ _) h ?_;rw[StrLaws.join_split]
abbrev fig(i:Int):Str:=Str.ofString (toString i)
def Im:∀i:Nat,i<100->intText? (fig i)=some (i:Int)/\1<=(fig i).length/\(fig i).length<=2/\((fig i).cps.toList.all fun c=>decide (48<=c/\c<=57))=true/\((fig i).length<=1\/(fig i).cps[0]?≠some 48):=δ
end Tx
end
section
namespace Tx
open PySem PySem.Builtin.Str PyProof.Rows K1
def CC{n:Nat}(h:n<=100000):n<=sizeLine:=by rw[sizeLine_eq];omega
def CD{b:Nat}:∀{ws:List Str},(∀t∈ws,t.length<=b)->(ws.map (·.length)).sum<=ws.length*b
 |[],_=>by simp
 |x::r,h=>by
  have a:=CD (ws:=r) fun t m=>h t (Av _ m);have h1:=h x Am;simp only[AE,List.sum_cons,Ap,Nat.succ_mul];omega
def CF{sep:Str}{ws:List Str}{b n:Nat}(hs:sep.length=1)(h:∀t∈ws,t.length<=b)(a:ws.length<=n)(c:n*(b+1)<=100000):JoinOk sep ws=true/\(Txt.join sep ws).length<=n*(b+1):=by
 have h1:=CD h;have h2:ws.length*(b+1)<=n*(b+1):=Nat.mul_le_mul_right _ a;rw[Nat.mul_add,Nat.mul_one] at h2;constructor
 ·unfold JoinOk tooLong
  rw[StrLaws.joinTotal,hs,Nat.mul_one];have:(ws.map (·.length)).sum+ws.length<=sizeLine:=CC ω;simp only[Bool.not_eq_true',decide_eq_false_iff_not];omega
 ·rw[show Txt.join sep ws=Str.join sep ws from StrLaws.glued_eq_join _ _]
  have:=StrLaws.join_length_le sep ws;rw[hs] at this;omega
abbrev gT(p:List Int):Prop:=∀x∈p,0<=x/\x<=99
def word(p:List Int):Str:=Txt.join "-" (p.map fig)
def text(a:Ξ):Str:=Txt.join " " (a.map word)
def p6{i:Int}(h:0<=i/\i<=99):intText? (fig i)=some i/\1<=(fig i).length/\(fig i).length<=2/\(∀c∈(fig i).cps.toList,48<=c/\c<=57)/\((fig i).length<=1\/(fig i).cps[0]?≠some 48):=by
 obtain⟨n,rfl⟩:∃n:Nat,i=n:=⟨i.toNat,ω⟩;obtain⟨a,b,c,d,e⟩:=Im n ω;refine⟨a,b,c,fun x hx=>?_,e⟩;have:=List.all_eq_true.mp d x hx;exact of_decide_eq_true this
def Io{i:Int}(h:0<=i/\i<=99){c:Nat}(hc:c<48):c∉(fig i).cps.toList:=fun m=>by
 have:=((p6 h).2.2.2.1 c m).1;omega
def dk:("-":Str)=⟨#[45]⟩:=δ
def blank:(" ":Str)=⟨#[32]⟩:=δ
def jv{p:List Int}(h:gT p)(a:p.length<=5):JoinOk "-" (p.map fig)=true/\(word p).length<=15:=
 CF (n:=5) (b:=2) rfl (fun t m=>by
  obtain⟨x,hx,rfl⟩:=List.mem_map.mp m;exact(p6 (h x hx)).2.2.1) (by rw[Ab];exact a) ξ
def Ip{p:List Int}(h:gT p)(a:p≠[]):Al (word p) "-"=p.map fig:=by
 unfold word;rw[dk];refine p5 (by simpa using a) fun t m=>?_;obtain⟨x,hx,rfl⟩:=List.mem_map.mp m;exact Io (h x hx) ξ
def mem_word{p:List Int}{c:Nat}(h:c∈(word p).cps.toList):c=45\/∃x∈p,c∈(fig x).cps.toList:=by
 unfold word at h;rw[show Txt.join "-" (p.map fig)=Str.join "-" (p.map fig) from StrLaws.glued_eq_join _ _,mem_join] at h;rcases h with ⟨t,m,hc⟩|⟨_,hc⟩
 ·obtain⟨x,hx,rfl⟩:=List.mem_map.mp m
  exact .inr ⟨x,hx,hc⟩
 ·rw[dk] at hc
  exact .inl (by simpa using hc)
def Iq(x y:Str):(Al x y).length<=x.length+2:=by
 unfold Al;split
 ·simp
 ·split
  ·simp
  ·rw[length_partsBetween]
   have:=StrLaws.occ_length_le x y 0 x.length (x.length+1);omega
def acc(p:List Int):Str:=p.foldl (fun w x=>w++"-"++fig x) ""
def raw(p:List Int):List Nat:=p.flatMap fun x=>45::(fig x).cps.toList
end Tx
end
section
namespace L2
open PySem PySem.Spec PyProof.Rows
section
variable{X:Cx}
def wZ:V->Option Int->Option Int->Hp->VK->Prop:=fun x lo hi H Q=>∃z,x=.str z/\z.length<=sizeLine/\Q (.str (Txt.slice z lo hi)) H
def iz:nT X wZ:=by
 intro aa s σ H x v e f lo hi g Q I b hs c d h;obtain⟨z,rfl,a,q⟩:=h;obtain⟨t,rfl⟩:=b;refine⟨"str",_,F.slot_str_getitem.lookup,typeIs_str _ _ _,?_⟩;cases c<;>cases d
 ·exact wpAny_getItem_str_slice (l:=none) (u:=none) (st:=none) hs rfl (post_val_or_str ⟨AA (Txt.slice_le z _ _) a,fun t' k=>⟨.str (Txt.slice z none none),H,I.tok _,⟨t',rfl⟩,q⟩⟩)
 ·rename_i i t
  exact wpAny_getItem_str_slice (l:=none) (u:=some (i,t)) (st:=none) hs rfl (post_val_or_str ⟨AA (Txt.slice_le z _ _) a,fun t' k=>⟨.str (Txt.slice z none (some i)),H,I.tok _,⟨t',rfl⟩,q⟩⟩)
 ·rename_i i t
  exact wpAny_getItem_str_slice (l:=some (i,t)) (u:=none) (st:=none) hs rfl (post_val_or_str ⟨AA (Txt.slice_le z _ _) a,fun t' k=>⟨.str (Txt.slice z (some i) none),H,I.tok _,⟨t',rfl⟩,q⟩⟩)
 ·rename_i i t j t2
  exact wpAny_getItem_str_slice (l:=some (i,t)) (u:=some (j,t2)) (st:=none) hs rfl (post_val_or_str ⟨AA (Txt.slice_le z _ _) a,fun t' k=>⟨.str (Txt.slice z (some i) (some j)),H,I.tok _,⟨t',rfl⟩,q⟩⟩)
end
end L2
end
section
namespace L2
open PySem PySem.Spec PyProof.Rows PySem.Builtin PySem.Builtin.Str
section
variable{X:Cx}
def zli:V->List V->Hp->VK->Prop:=fun x vs H Q=>∃(z:PySem.Str)(c:Nat),x=.str z/\vs=[.str ⟨#[c]⟩]/\Q (.bl (decide (z.cps.toList.head?=some c))) H
def Ir:jT X "str.startswith" zli:=by
 intro aa s σ H x vs v us Q I b d h;obtain⟨z,c,rfl,rfl,q⟩:=h;obtain⟨t,rfl⟩:=b;obtain⟨u,rfl,f⟩:=d.one;obtain⟨t',rfl⟩:=f;have e:(decide (0+PySem.Str.length ⟨#[c]⟩<=z.length)&&subAt z ⟨#[c]⟩ 0)=decide (z.cps.toList.head?=some c):=by
  obtain⟨⟨l⟩⟩:=z;cases l with
  |nil=>simp[PySem.Str.length,subAt]
  |cons a l=>
   simp only[PySem.Str.length,subAt,Aj,Ap,List.length_nil,List.head?_cons,Nat.zero_add];have:(decide (1<=l.length+1))=true:=decide_eq_true ω;rw[this,Bool.true_and];have e2:Array.extract (a::l).toArray 0 1=#[a]:=by simp
   rw[e2]
   by_cases q:a=c
   ·subst q;simp
   ·simp[q]
 refine call_gives F.slot_str_startswith (typeIs_str _ _ _) F.entry_str_startswith (F.args_str_startswith_2 _ _) (gives_str_startswith z ⟨#[c]⟩ t t') ?_;show EP X aa σ Q (.bool _) s;rw[e];exact⟨.bl _,H,I,rfl,q⟩
end
end L2
namespace Tx
open PySem L2
def eL(m:Nat):(fig (m:Int)).cps.toList=(A6 10 m).map Char.toNat:=PySem.W.KIN.signs_num m
def Iu:∀m:Nat,0<m->∃c r,A6 10 m=c::r/\c.toNat≠48:=by
 intro m
 induction m using Nat.strongRecOn with
 |_ m ih=>
  intro a
  by_cases h:m<10
  ·refine⟨Nat.digitChar m,[],Nat.toDigits_of_lt_base h,?_⟩
   have:∀k:Nat,k<10->0<k->(Nat.digitChar k).toNat≠48:=ξ
   exact this m h a
  ·obtain⟨c,r,e,hc⟩:=ih (m / 10) ω ω
   have hm:m%10<10:=Nat.mod_lt m ξ;have t:A6 10 (m / 10)++A6 10 (m%10)=A6 10 (10*(m / 10)+m%10):=Nat.toDigits_append_toDigits ξ ω hm;rw[Nat.div_add_mod] at t;exact⟨c,r++A6 10 (m%10),by rw[<-t,e];rfl,hc⟩
def CG:∀(k m:Nat),m<10 ^ (k+1)->(A6 10 m).length<=k+1/\1<=(A6 10 m).length
 |0,m,h=>by
  rw[Nat.toDigits_of_lt_base (by simpa using h)];simp
 |k+1,m,h=>by
  by_cases a:m<10
  ·rw[Nat.toDigits_of_lt_base a]
   simp
  ·have hm:m%10<10:=Nat.mod_lt m ξ
   have t:A6 10 (m / 10)++A6 10 (m%10)=A6 10 (10*(m / 10)+m%10):=Nat.toDigits_append_toDigits ξ ω hm;rw[Nat.div_add_mod] at t;have hk:m / 10<10 ^ (k+1):=by
    rw[Nat.div_lt_iff_lt_mul ξ];rw[Nat.pow_succ] at h;exact h
   have:=CG k (m / 10) hk;rw[<-t,Aq,Nat.toDigits_of_lt_base hm,List.length_singleton];omega
def fz{n:Int}(h:0<=n)(h1:n<10 ^ 30):intText? (fig n)=some n/\1<=(fig n).length/\(fig n).length<=30/\(∀c∈(fig n).cps.toList,48<=c/\c<=57)/\((fig n).length<=1\/(fig n).cps[0]?≠some 48):=by
 obtain⟨m,rfl⟩:=Int.eq_ofNat_of_zero_le h;have hm:m<10 ^ (29+1):=by
  have:((m:Nat):Int)<((10 ^ 30:Nat):Int):=by simpa using h1
  omega
 have d:=CG 29 m hm;have a:(fig (m:Int)).length=(A6 10 m).length:=by
  show(fig (m:Int)).cps.size=_;rw[<-Au,eL,Ab]
 have hd:∀c∈(fig (m:Int)).cps.toList,48<=c/\c<=57:=by
  intro c hc;rw[eL] at hc;obtain⟨ch,f,e⟩:=List.mem_map.mp hc;rw[<-e];exact PyProof.Rows.digit_range (Nat.isDigit_of_mem_toDigits ξ ξ f)
 have b:(fig (m:Int)).cps.toList≠[]:=by
  rw[eL];intro e;rw[List.map_eq_nil_iff.mp e] at d;simp at d
 have e:=intText_digits hd b ω;rw[eL,PySem.W.KIN.val_back] at e;refine⟨e,ω,ω,hd,?_⟩;rcases Nat.eq_zero_or_pos m with rfl|hp
 ·left;rw[a];decide +kernel
 ·right
  obtain⟨c,r,g,hc⟩:=Iu m hp;rw[<-AM,eL,g]
  simpa using hc
end Tx
end
section
namespace Tx
open PySem L2 PyProof.Rows
def term(c:List Int×Int):Str:=fig c.2++"*"++word c.1
def be(cs:List (List Int×Int)):Str:=Txt.join " " (cs.map term)
abbrev Sm(n:Int):Prop:=n.natAbs<10 ^ 30
def jw(m:Nat):(fig (Int.negSucc m)).cps.toList=45::(fig ((m+1:Nat):Int)).cps.toList:=by
 rw[eL,PyProof.Rows.signs_ofString];show("-"++Nat.repr (m+1)).toList.map Char.toNat=_;rw[String.toList_append,At,Nat.toList_repr]
 rfl
def mS{n:Int}(h:n<0):∃m:Nat,n=Int.negSucc m/\-n=((m+1:Nat):Int):=by
 obtain⟨m,rfl⟩:∃m:Nat,n=Int.negSucc m:=⟨(-n-1).toNat,ω⟩;exact⟨m,rfl,rfl⟩
def iZ(x:Str):x.cps.toList.length=x.length:=by simp[Str.length]
def kH{n:Int}(h:Sm n):(∀c∈(fig n).cps.toList,c=45\/(48<=c/\c<=57))/\(fig n).length<=31/\1<=(fig n).length:=by
 by_cases d:0<=n
 ·obtain⟨_,a,b,c,_⟩:=fz d (by have:n.natAbs<10 ^ 30:=h;omega)
  exact⟨fun x hx=>.inr (c x hx),ω,a⟩
 ·obtain⟨m,rfl,e⟩:=mS (by omega:n<0)
  have hm:((m+1:Nat):Int)<10 ^ 30:=by have:(Int.negSucc m).natAbs<10 ^ 30:=h;omega
  obtain⟨_,a,b,c,_⟩:=fz (n:=((m+1:Nat):Int)) ω hm;have f:(fig (Int.negSucc m)).length=1+(fig ((m+1:Nat):Int)).length:=by rw[<-iZ,jw,Ap,iZ];omega
  refine⟨fun x hx=>?_,ω,ω⟩;rw[jw] at hx;rcases List.mem_cons.mp hx with e|e
  ·exact .inl e
  ·exact .inr (c x e)
def Iv{n:Int}(h:Sm n):decide ((fig n).cps.toList.head?=some 45)=decide (n<0):=by
 by_cases d:0<=n
 ·obtain⟨_,a,b,c,_⟩:=fz d (by have:n.natAbs<10 ^ 30:=h;omega)
  rw[decide_eq_false (by omega:¬n<0)];refine decide_eq_false fun z=>?_;have:=(c 45 (List.mem_of_mem_head? (by rw[z];rfl))).1;omega
 ·obtain⟨m,rfl,e⟩:=mS (by omega:n<0)
  rw[jw,decide_eq_true (show Int.negSucc m<0 from ω)]
  rfl
def mU{u v:Str}(h:u.cps.toList=v.cps.toList):u=v:=by
 apply Str.ext';exact Array.toList_inj.mp h
def Iw{n:Int}(h:n<0):Txt.slice (fig n) (some 1) none=fig (-n):=by
 obtain⟨m,rfl,e⟩:=mS h;rw[e];have a:(fig (Int.negSucc m)).length=1+(fig ((m+1:Nat):Int)).length:=by rw[<-iZ,jw,Ap,iZ];omega
 rw[slice_from_eq (i:=1) (b:=(fig (Int.negSucc m)).length) ξ ω rfl];apply mU;show List.take _ (List.drop 1 (fig (Int.negSucc m)).cps.toList)=_;rw[jw,List.drop_one,List.tail_cons,AD];rw[iZ];omega
def CH(n:Int):Txt.join "" [if n<0 then "-" else "",fig (if n<0 then -n else n)]=fig n:=by
 apply mU;show((if n<0 then("-":Str) else "").cps++("":Str).cps++(fig (if n<0 then -n else n)).cps).toList=_
 by_cases h:n<0
 ·rw[if_pos h,if_pos h]
  obtain⟨m,rfl,e⟩:=mS h;rw[e,jw,dk,show(("":Str).cps)=#[] from rfl];simp
 ·rw[if_neg h,if_neg h,show(("":Str).cps)=#[] from rfl]
  simp
def term_signs(c:List Int×Int):(term c).cps.toList=(fig c.2).cps.toList++42::(word c.1).cps.toList:=by
 have es:("*":Str)=⟨#[42]⟩:=δ
 unfold term;rw[es];show((fig c.2).cps++#[42]++(word c.1).cps).toList=_;simp
def w4{p:List Int}(h:gT p){c:Nat}(hc:c∈(word p).cps.toList):c=45\/(48<=c/\c<=57):=by
 rcases mem_word hc with e|⟨x,hx,a⟩
 ·exact .inl e
 ·exact .inr ((p6 (h x hx)).2.2.2.1 c a)
abbrev Tm(c:List Int×Int):Prop:=gT c.1/\c.1≠[]/\c.1.length<=5/\Sm c.2
def Ix{c:List Int×Int}(h:Tm c):32∉(term c).cps.toList:=fun m=>by
 rw[term_signs,List.mem_append,List.mem_cons] at m;rcases m with z|z|z
 ·have:=(kH h.2.2.2).1 _ z;omega
 ·omega
 ·have:=w4 h.1 z;omega
def Iy{c:List Int×Int}(h:Tm c):42∉(fig c.2).cps.toList/\42∉(word c.1).cps.toList:=
 ⟨fun z=>by have:=(kH h.2.2.2).1 _ z;omega,fun z=>by have:=w4 h.1 z;omega⟩
def Iz{c:List Int×Int}(h:Tm c):(term c).length<=47/\1<=(term c).length:=by
 have h1:=(kH h.2.2.2).2;have h2:=(jv h.1 h.2.2.1).2;rw[<-iZ,term_signs,Aq,Ap,iZ,iZ];omega
def CI{cs:List (List Int×Int)}(h:∀c∈cs,Tm c)(a:cs≠[]):Al (be cs) " "=cs.map term:=by
 unfold be;rw[blank];refine p5 (by simpa using a) fun t m=>?_;obtain⟨x,hx,rfl⟩:=List.mem_map.mp m;exact Ix (h x hx)
def w5{cs:List (List Int×Int)}(h:∀c∈cs,Tm c)(a:cs.length<=200):JoinOk " " (cs.map term)=true/\(be cs).length<=9600:=
 CF (n:=200) (b:=47) rfl (fun t m=>by
  obtain⟨x,hx,rfl⟩:=List.mem_map.mp m;exact(Iz (h x hx)).1) (by rw[Ab];exact a) ξ
end Tx
end
section
namespace K18
open K1 Tx
open PySem L2 STb
def w6(H:Hp)(t:Addr)(c:List Int×Int):Prop:=∃b,H t=some (.tup [.ref b,.int c.2])/\Tp H b c.1
def Prs(H:Hp)(ts:List Addr)(cs:Ch):Prop:=Paired (w6 H) ts cs
def Prs.same{H H':Hp}{ts:List Addr}{cs:Ch}(h:Prs H ts cs)(s:Same H H'):Prs H' ts cs:=Paired.mapP h fun _ _ ⟨b,e1,e2⟩=>⟨b,s _ _ e1,s.tp e2⟩
def Prs.length{H:Hp}{ts:List Addr}{cs:Ch}(h:Prs H ts cs):ts.length=cs.length:=Paired.length h
def Prs.upd{H:Hp}{d:Addr}{o o':HO}{ts:List Addr}{cs:Ch}(h:Prs H ts cs)(hd:H d=some o')(a:∀xs,o'≠.tup xs):Prs (L2.upd H d o) ts cs:=
 Paired.mapP h fun t c ⟨b,e1,e2⟩=>⟨b,by rw[zh (dF e1 hd fun z=>a _ z.symm)];exact e1,by show L2.upd H d o b=_;rw[zh (dF (show H b=some _ from e2) hd fun z=>a _ z.symm)];exact e2⟩
def Prs.snoc{H:Hp}{ts:List Addr}{cs:Ch}{t:Addr}{c:List Int×Int}(h:Prs H ts cs)(q:w6 H t c):Prs H (ts++[t]) (cs++[c]):=Paired.snoc h q
def Prs.append{H:Hp}{ts us:List Addr}{cs ds:Ch}(h:Prs H ts cs)(q:Prs H us ds):Prs H (ts++us) (cs++ds):=by
 induction h with
 |nil=>exact q
 |cons r t ih=>exact .cons r ih
def Prs.get{H:Hp}:∀{ts:List Addr}{cs:Ch}{i:Nat}{t:Addr},Prs H ts cs->ts[i]?=some t->∃c,cs[i]?=some c/\w6 H t c
 |_,_,0,_,.cons h _,e=>by cases e;exact⟨_,rfl,h⟩
 |_,_,i+1,_,.cons _ t,e=>Prs.get (i:=i) t (by simpa using e)
def dQ(cs:Ch)(q:List Int):Int:=((cs.find? fun c=>decide (c.1=q)).map (·.2)).getD 0
def IA(cs:Ch)(q:List Int):(bJ (bx cs) (q.map Sum.inl)).getD (.int 0)=.int (dQ cs q):=by
 unfold bJ dQ bx
 induction cs with
 |nil=>rfl
 |cons c r ih=>
  rw[AE,List.find?_cons,List.find?_cons]
  by_cases e:c.1=q
  ·rw[decide_eq_true e,decide_eq_true (fG.mpr e)];rfl
  ·rw[decide_eq_false e,decide_eq_false (fun z=>e (fG.mp z))];exact ih
def IB{cs:Ch}{q:List Int}(v:Int)(h:q∉ksC cs):putC cs q v=cs++[(q,v)]:=by unfold putC;rw[if_neg h]
def p8{H:Hp}{b:Addr}{ps:List Int}(h:Tp H b ps):H b=some (.tup ((ps.map Sum.inl:List Key).map kV)):=by rw[AC];exact h
def IC{kn:Ξ}{n:Nat}(h:∀q∈kn,q.length=n):gF kn=true:=by
 unfold gF;refine decide_eq_true ?_;have:(dd (ci kn)).length<=1:=(wV _).mpr fun x hx y hy=>by
  unfold ci at hx hy;obtain⟨a,c,rfl⟩:=List.mem_map.mp hx;obtain⟨b,hb,rfl⟩:=List.mem_map.mp hy;rw[h a c,h b hb]
 omega
def ID{kn:Ξ}{cs:Ch}{n:Nat}(h1:∀c∈cs,c.1∈kn)(h2:∀c∈cs,c.1.length=n)(a:∀c∈cs,c.2≠0):dL kn cs=true:=by
 unfold dL;rw[decide_eq_true (fun k hk=>by obtain⟨c,hc,rfl⟩:=List.mem_map.mp hk;exact h1 c hc),IC (n:=n) (fun q hq=>by obtain⟨c,hc,rfl⟩:=List.mem_map.mp hq;exact h2 c hc),Bool.true_and,Bool.true_and,List.all_map,List.all_eq_true];intro c hc;show(!decide (V.int c.2=V.int 0))=true;rw[decide_eq_false (fun z=>a c hc (by injection z))]
 rfl
end K18
end
section
namespace K18
open K1 Tx
open PySem L2 STb
abbrev qw:Stmt:=top 34
abbrev w9:Stmt:=top 35
abbrev w_:Stmt:=top 36
abbrev xa:Stmt:=top 37
def mY:A4 "str"=some (.type "str"):=δ
def IE:∀n:Nat,n<100->n.log2<1920:=δ
abbrev xb:TE:=jc (fun xs H Q=>∃i:Int,xs=[.int i]/\i.natAbs.log2<1920/\Q (.str (toString i)) H) (cu (a' 0) cg)
section
variable{P:Program}{w:World}{K:Ae}{mg:Str->Option Value}{base:Heap}
def xf{H2:Hp}{a D:Addr}{ps:List Int}{Q:VK}(h:Tp H2 a ps)(i:ps.length<=5)(hp:gT ps)(f:H2 D=none)(k:∀b,Same H2 b->b D=some (.lst ((ps.map fig).map V.str))->Q (.ref D) b):cF (iF K a) (dc 0) bZ xb [none] H2 D Q:=by
 refine yQ (xs:=ps.map V.int) (fun j σ ys b=>∃v:Option V,σ=[v]/\Same H2 b/\b D=some (.lst ys)/\ys=((ps.map fig).take j).map V.str) ?_ ?_ ?_ ?_
 ·exact⟨none,rfl,Same.new f,al,rfl⟩
 ·rintro j σ ys b ⟨v,rfl,c,d,rfl⟩
  exact SqT.of (c.tp h)
 ·rintro j σ ys b x hx g hy ⟨v,rfl,c,d,rfl⟩
  obtain⟨q,eq,rfl⟩:=kr hx;have hq:=hp q (Ay eq);have e:(ps.map fig)[j]?=some (fig q):=by rw[Ao,eq];rfl
  refine cx ?_;exact⟨_,rfl,q,rfl,IE _ ω,bR (by rw[Ab];exact zb ω) g hy d ⟨_,rfl,c.then f,al,by rw[AX e,At];rfl⟩⟩
 ·rintro σ ys b ⟨v,rfl,c,d,rfl⟩
  rw[AD (by simp)] at d;exact k b c d
def CJ:Sp:=fun vs H Q _=>∃a ps,vs=[.ref a]/\Tp H a ps/\ps.length<=5/\gT ps/\∀H',Same H H'->Q (.str (word ps)) H'
def IF:zo ["piece"] ["piece"] (ze qw):=⟨rfl,rfl,rfl,δ,rfl,δ,δ⟩
def IG{f:Addr}{fd:FuncData}(F:Fun K "shown_piece" "shown_piece" qw f fd)(ys:mg "str"=none):FnOk P w K mg base aE 1 f fd ["piece"] CJ:=by
 refine F.ok IF (fun vs H Q E h=>?_) (fun cdv A outer s H vs Q E hr h=>?_)
 ·obtain⟨a,ps,rfl,_⟩:=h;rfl
 ·obtain⟨a,ps,rfl,c,d,hp,k⟩:=h
  refine⟨_,zd (zm (zP AK PySem.F.slot_str_join PySem.F.type_str_join ju pe_str (af (zw ["piece"] ["point"] [none] (jJ (pv 0)) (fun b C s₀ H₀ ex=>zr (i:=0) (cW ["point"]) rfl (Or.inl rfl)) (fun b C s₀ H₀ ex=>zL)
   (fun b C s₀ H₀ ex=>zt lw rfl ys mY (af (pv 0) ao)) (hfr:=bK δ)) ao))),?_⟩
  exact⟨rfl,_,rfl,a,rfl,⟨_,SqT.of c⟩,fun D e=>zH (xf c d hp e fun l g j=>⟨_,D,_,rfl,rfl,SqL.of j,(jv hp d).1,k l g⟩)⟩
end
end K18
end
section
namespace L2
open PySem PySem.Spec PyProof.Rows
def CK(f:Array Value->Array Value)(o:Obj):(o.mapFields f).dict=o.dict:=by unfold A5;split<;>rfl
def Xc(h:Heap)(x:Addr)(C:Value)(T:Option Addr):Prop:=
 ∃b vs,h.get? x=some b/\b.cls=C/\b.dict=none/\b.data=.fields vs/\1<vs.size/\((T=none/\vs[1]?=some .none)\/∃a c ts,T=some a/\vs[1]?=some (.ref a)/\a≠x/\h.get? a=some c/\c.data=.fields ts/\ts[3]?=some .none)
def gU(fr:List Addr)(x:Addr)(T:Option Addr)(h h':Heap):Prop:=
 (∀b o,h.get? b=some o->b≠x->T≠some b->b∉fr->h'.get? b=some o)/\(∀b o,h.get? b=some o->b∈fr->∃a,h'.get? b=some {o with slots:=a})/\h.objs.size<=h'.objs.size
section
variable{M:Model}{A:Around}{E:Ω}{s:Shared}
def nf{base:Heap}{env:Env}{outer:List Env}{L x:Addr}{j:Obj}{vs:Array Value}{head:Value}{O:Bool}{Q:Unit->Shared->Prop}(hfr:A.frames=some (env::outer))(F:s.heap.FunFrames base (env::outer))(hf:env.frame=some L)(he:s.heap.get? x=some j)(P:j.dict=none)(hd:j.data=.fields vs)(hsz:1<vs.size)(h:∀h' T',s⁻¹<=T'->Xc h' x j.cls (some T')->gU ((env::outer).filterMap (·.frame)) x none s.heap h'->Q () {s with heap:=h'}):wpAny M A (do let a <-frameOf env;let d <-entryPlaceOf L O;let b <-EntryCells.newEntry head a .none (rawInt L) .none d;setField (.ref x) 1 b) (fun _ s'=>wpAny M A (setFlight (.ref x) none) Q E s') E s:=by
 have g:x∉(env::outer).filterMap (·.frame):=fun hm=>by
  obtain⟨_,o,p,H⟩:=F.mem hm;rw[he] at p;injection p with p;subst p;exact H vs hd
 refine Aa (wpAny_frameOf_fun hfr F hf fun c l=>?_);refine Aa (wpAny_entryPlaceOf fun d i=>?_);unfold EntryCells.newEntry newFields;refine Aa (AS ?_ (i.sizeOk5 _ _ _ _ _));have y:c.get? x=some j:=(l.2.1 x g).trans he;have z:=Ad (h:=c) {cls:=.type "traceback",dict:=none,data:=.fields ([head,.ref L,.none,rawInt L,.none]++(if d.isEmpty then List.replicate 6 Value.none else d)).toArray} y;refine A8 z hd hsz ?_;have u:c.objs.size≠x:=Nat.ne_of_gt (Ah y);have v:=A0 hd (·.setIfInBounds 1 (Value.ref c.objs.size));have C:=Heap.get?_update_self (A5 (·.setIfInBounds 1 (Value.ref c.objs.size))) z (Obj.isFreed_of_fields v);have D:=(AL (c.push {cls:=.type "traceback",dict:=none,data:=.fields ([head,.ref L,.none,rawInt L,.none]++(if d.isEmpty then List.replicate 6 Value.none else d)).toArray})
  (A5 (·.setIfInBounds 1 (Value.ref c.objs.size))) (Ne.symm u)).trans (Ax c rfl)
 unfold setFlight;refine Aa (AN C v (x:=.ref c.objs.size) (by simp[hsz]) ?_);rw[if_pos (show(Value.ref c.objs.size != Value.none)=true from by simp)];have N:c.objs.size=s⁻¹:=l.1;refine A8 D rfl (by simp only[Aj,Aq,Ap,List.length_nil]<;>omega) (h _ c.objs.size ω ?_ ?_)
 ·refine⟨_,_,?_,Obj.cls_mapFields _ _,(CK _ _).trans P,v,by simpa using hsz,.inr ⟨c.objs.size,_,_,rfl,by simp[hsz],u,Heap.get?_update_self _ D (Obj.isFreed_of_fields (A0 rfl _)),A0 rfl _,?_⟩⟩
  ·rw[AL _ _ u];exact C
  ·first|(simp;done)|(rcases i with rfl|⟨_,_,_,_,_,_,_,rfl⟩<;>simp)
 ·have keep:∀b o,b≠x->c.get? b=some o->
    (((c.push {cls:=.type "traceback",dict:=none,data:=.fields ([head,.ref L,.none,rawInt L,.none]++(if d.isEmpty then List.replicate 6 Value.none else d)).toArray}).update x (A5 (·.setIfInBounds 1 (Value.ref c.objs.size)))).update c.objs.size
     (A5 (·.setIfInBounds 3 ((none:Option Addr).elim Value.none fun f=>rawInt f)))).get? b=some o:=fun b o q hb=>by
   have w:c.objs.size≠b:=Nat.ne_of_gt (Ah hb);rw[AL _ _ w,AL _ _ (Ne.symm q)];exact Ad _ hb
  refine⟨fun b o hb G _ r=>keep b o G ((l.2.1 b r).trans hb),fun b o hb r=>?_,?_⟩
  ·obtain⟨I,J⟩:=l.2.2 b o hb
   exact⟨I,keep b _ (fun e=>g (e▸r)) J⟩
  ·rw[AO,AO,Heap.size_push]
   show s⁻¹<=c.objs.size+1;omega
def IH{base:Heap}{env:Env}{outer:List Env}{L x:Addr}{C:Value}{T:Option Addr}{Q:Unit->Shared->Prop}(hfr:A.frames=some (env::outer))(l:s.heap.FunFrames base (env::outer))(hf:env.frame=some L)(he:Xc s.heap x C T)(h:∀h' T',s⁻¹<=T'->Xc h' x C (some T')->gU ((env::outer).filterMap (·.frame)) x T s.heap h'->Q () {s with heap:=h'}):wpAny M A (leaving env (.ref x)) Q E s:=by
 obtain⟨z,vs,he,rfl,p,hd,hsz,h1⟩:=he;unfold leaving noteFrame;simp only[hf];rcases h1 with ⟨rfl,h1⟩|⟨a,D,ts,rfl,h1,y,i,j,r⟩
 ·refine Aa (Aa (AN he hd h1 ?_))
  rw[if_neg ξ];exact nf hfr l hf he p hd hsz h
 ·refine Aa (Aa (AN he hd h1 ?_))
  rw[if_pos (show(Value.ref a != Value.none)=true from by simp)];refine Aa (AN i j r ?_);rw[if_neg (show ¬((Value.none==rawInt L)=true) from by simp[rawInt])];refine Aa (A8 i j (Array.getElem?_eq_some_iff.mp r).1 ?_);have f:∀b,b≠a->(s.heap.update a (A5 (·.setIfInBounds 3 Value.none))).get? b=s.heap.get? b:=fun b hb=>AL _ _ (Ne.symm hb);have v:∀b o,s.heap.get? b=some o->(∀vs,o.data≠.fields vs)->b≠a:=fun b o hb c q=>by
   rw[q,i] at hb;injection hb with hb;subst hb;exact c ts j
  refine nf hfr (l.of_keeps fun b o hb c=>⟨o,(f b (v b o hb c)).trans hb,rfl⟩) hf ((f x (Ne.symm y)).trans he) p hd hsz fun h' T' hT' hx hk=>h h' T' (by rw[AO] at hT';exact hT') hx ?_;obtain⟨k1,k2,k3⟩:=hk;refine⟨fun b o hb w g d=>k1 b o ((f b fun e=>g (by rw[e])).trans hb) w (by simp) d,fun b o hb d=>?_,by rw[AO] at k3;exact k3⟩;obtain⟨_,o',u,c⟩:=l.mem d;rw[hb] at u;cases u;exact k2 b o ((f b (v b o hb c)).trans hb) d
end
end L2
end
section
namespace L2
open PySem PySem.Spec PyProof.Rows
def cO(P:Program)(w:World):ez:=fun outer H s E e s'=>∃(x C:Addr)(T:Option Addr)(H':Hp),e=.ref x/\s'.os=s.os/\AllBare s'.gens/\Un (frs outer) [] H H' s.heap s'.heap/\HOk P w H' s'.heap/\
 H' x=none/\s.heap.get? x=none/\(∀a,T=some a->H' a=none/\s.heap.get? a=none)/\Xc s'.heap x (.ref C) T/\E e (some C) H'
def xg{P:Program}{w:World}{H:Hp}{h h':Heap}{fr:List Addr}{x:Addr}{T:Option Addr}(f:HOk P w H h)(k:gU fr x T h h')(hx:H x=none)(g:∀a,T=some a->H a=none)(hf:∀b∈fr,H b=none):HOk P w H h':=by
 intro b u e;refine(f b u e).stay (fun c v hc q=>k.1 c v q ?_ ?_ ?_) (fun _ q=>q) fun _ _ q=>q
 all_goals
  have d:H c≠none:=by
   rcases hc with z|z
   ·rw[z,e];simp
   ·rw[z];simp
 ·exact fun z=>d (z▸hx)
 ·exact fun z=>d (g c z)
 ·exact fun z=>d (hf c z)
def kK{P:Program}{w:World}{K:Ae}{mg:Str->Option Value}{base:Heap}{N:List Str}{g:Str}{scope:Scope}{f:Addr}{h:Value}{A:Around}{outer:List Env}{s:Shared}{H:Hp}{E:XK}{aa:Ψ}{σ:St}{H':Hp}{s':Shared}{x C:Addr}{T:Option Addr}(I:Inv (aZ (cO P w) P w K mg base N g scope f h A outer s H E) aa σ H' s')(hx:Xc s'.heap x (.ref C) T)(r:H' x=none)(u:s.heap.get? x=none)(v:∀a,T=some a->H' a=none/\s.heap.get? a=none)(J:E (.ref x) (some C) H'):(aZ (cO P w) P w K mg base N g scope f h A outer s H E).xe (.ref x) s':=by
 show wpAny (model P w) (A.deeper (envOfC g scope s⁻¹ f h)) (leaving (envOfC g scope s⁻¹ f h) (.ref x)) _ _ s';refine IH I.ok.frames I.stack rfl hx fun h' T' hT' y hk=>?_;have hfr:=I.stkFree;have hsz:s⁻¹<=s'⁻¹:=I.sz;have G:∀b o,s.heap.get? b=some o->b≠x/\T≠some b/\b≠s⁻¹:=fun b o e=>by
  have hb:=Ah e;exact⟨fun z=>(by rw[z,u] at e;cases e),fun z=>(by rw[(v b z).2] at e;cases e),Ar hb⟩
 have p:∀b o o',s.heap.get? b=some o->s'.heap.get? b=some o'->b∉frs outer->h'.get? b=some o':=fun b o o' e c hb=>by
  obtain⟨n1,n2,D⟩:=G b o e;refine hk.1 b o' c n1 n2 fun hm=>?_;have l:b∈s⁻¹::frs outer:=hm;rcases List.mem_cons.mp l with z|z
  ·exact D z
  ·exact hb z
 have d:∀b o',s'.heap.get? b=some o'->b∈frs outer->∃j,h'.get? b=some {o' with slots:=j}:=fun b o' c hb=>hk.2.1 b o' c (show b∈s⁻¹::frs outer from Av _ hb);have i:∀b:Addr,b∉(aZ (cO P w) P w K mg base N g scope f h A outer s H E).ex:=fun b z=>absurd (show b∈([]:List Addr) from z) (by simp);refine⟨x,C,some T',H',rfl,I.os,I.bare,⟨fun b o q n hb hx=>?_,fun b o q n hb hx=>?_,fun b o q n hx=>I.base.free b o q n (i b),fun b o q hx=>?_,I.base.tups,I.base.frzs,I.base.tbls⟩,xg I.hok hk r (fun a e=>(v a e).1) hfr,r,u,fun a e=>?_,y,J⟩
 ·exact p b o o q (I.base.keep b o q n hb (i b)) hb
 ·obtain⟨j,e⟩:=I.base.slot b o q n hb (i b)
  obtain⟨F,c⟩:=d b _ e hb;exact⟨F,c⟩
 ·obtain⟨o',e⟩:=I.base.there b o q (i b)
  by_cases hb:b∈frs outer
  ·obtain⟨j,c⟩:=d b o' e hb
   exact⟨_,c⟩
  ·exact⟨o',p b o o' q e hb⟩
 ·cases e
  refine⟨I.hok.fresh hT',?_⟩;cases q:s.heap.get? T' with
  |none=>rfl
  |some o=>exact absurd (Ah q) (Nat.not_lt.mpr (AA hsz hT'))
def dR{P:Program}{w:World}{K:Ae}{mg:Str->Option Value}{base:Heap}{N:List Str}{h:Str}{scope:Scope}{f:Addr}{i:Value}{A:Around}{outer:List Env}{s:Shared}{H:Hp}{E:XK}:bW (cO P w) (aZ (cO P w) P w K mg base N h scope f i A outer s H E) E:=by
 rintro aa σ H1 j e l I ⟨x,C,T,H',rfl,os,c,un,d,p,r,g,hx,u⟩;have v:Inv (aZ (cO P w) P w K mg base N h scope f i A outer s H E) aa σ H' l:=I.call' (ch:=[]) os un d c (fun b z=>absurd z (by simp));have back:∀b,j.heap.get? b=none->s.heap.get? b=none:=fun b hb=>by
  cases q:s.heap.get? b with
  |none=>rfl
  |some o=>
   obtain⟨o',e⟩:=I.base.there b o q (fun z=>absurd (show b∈([]:List Addr) from z) (by simp));rw[hb] at e;cases e
 exact kK v hx p (back x r) (fun a e=>⟨(g a e).1,back a (g a e).2⟩) u
def Fun.ok1{P:Program}{w:World}{K:Ae}{mg:Str->Option Value}{base:Heap}{x b:Str}{st:Stmt}{f:Addr}{fd:FuncData}{N ps:List Str}{k:Nat}{sp:Sp}(F:Fun K x b st f fd)(S:zo N ps (ze st))(len:∀vs H Q E,sp vs H Q E->vs.length=ps.length)(d:∀(cdv:Value)(A:Around)(outer:List Env)(s:Shared)(H:Hp)(vs:List V)(Q:VK)(E:XK),Room k (A.deeper (envOfC b (ze st) s⁻¹ f cdv))->sp vs H Q E->
   ∃t,PSs (aZ (cO P w) P w K mg base N b (ze st) f cdv A outer s H E) (zE st) t/\t {nx:=fun _ H'=>Q .non H',rt:=Q} (start N vs) H):FnOk P w K mg base (cO P w) (k+1) f fd ps sp:=by
 obtain⟨e,g,kV,h,i,j,cdv,ct,l,rfl,lk,c⟩:=F.ex;exact yd lk c S len fun A outer s H vs Q E hr a=>d cdv A outer s H vs Q E hr a
def II{P:Program}{w:World}{H:Hp}{h:Heap}{a:Addr}{o:HO}(x:zA P w H h a o):∃ob,h.get? a=some ob:=by
 cases o with
 |lst xs=>obtain⟨_,_,_,_,e⟩:=x;exact⟨_,e⟩
 |tup xs=>obtain⟨_,_,_,o,e,_⟩:=x;exact⟨_,e⟩
 |dK kvs=>obtain⟨_,_,_,_,o,_,_,e,_⟩:=x;exact⟨_,e⟩
 |dT kvs=>obtain⟨_,_,_,_,o,_,_,e,_⟩:=x;exact⟨_,e⟩
 |set S n=>obtain⟨o,_,_,_,e,_⟩:=x;exact⟨_,e⟩
 |ins C dx fs=>obtain⟨_,_,_,e,_⟩:=x;exact⟨_,e⟩
 |own y=>exact x
 |xd fs=>obtain⟨_,⟨_,_,_,e,_⟩,_⟩:=x;exact⟨_,e⟩
 |met f y=>exact⟨_,x⟩
 |rng lo hi=>obtain⟨_,_,_,e⟩:=x;exact⟨_,e⟩
 |frz ob u=>exact⟨_,x.1⟩
 |tbl ps=>exact⟨_,x⟩
 |ext φ=>exact x.2.1
def xh{K:Ae}{h:Heap}{C:Addr}{c:List Value}{j:String}(X:K.In h)(q:PySem.W.excIn K C c j=true):∃bm N nm b bs hdct sn sub ab col dd k0 k1 k2 k3 k5,∃f:Str->Option Value,f "__init__"=none/\(∀T,c.contains (.type T)=true->bm.contains (.type T)=true)/\∀h':Heap,K.In h'->h'.get? C=some (excClassObj nm b C N bs bm hdct sn sub ab col dd k0 k1 k2 k3 k5 j)/\h'.Ns N f/\OwnTail h' c bm:=by
 unfold PySem.W.excIn at q;split at q
 ·rename_i dd cd sl ho
  split at q
  ·rename_i C' bm k0 k1 k2 k3 n k5 hm hs
   simp only[AB,beq_iff_eq,Bool.not_eq_true'] at q;obtain⟨⟨⟨⟨⟨rfl,rfl⟩,g⟩,ht⟩,a⟩,i⟩:=q;obtain⟨nm,bs,mro,ns,b,hd,sn,sub,ab,col,u⟩:=cd;dsimp only at hm g a i;subst hm g;have r:sl=#[k0,k1,k2,k3,some (.builtin n),k5]:=by
    obtain⟨l⟩:=sl;simp only at hs;rw[hs]
   subst r;refine⟨bm,ns,nm,b,bs,hd,sn,sub,ab,col,dd,k0,k1,k2,k3,k5,h.nsMap ns,PySem.W.nsMap_none_of_in X a i,fun T p=>(PySem.W.tail_of_in X ht).hasType p,fun h' d=>⟨d _ _ ho,?_,PySem.W.tail_of_in d ht⟩⟩;have s:h.Ns ns (h.nsMap ns):=.of_isNs (PySem.W.isNs_of_in X a);unfold PySem.W.nsOkIn at a;split at a
   ·rename_i c1 d1 eB cK sl1 dy
    exact s.at' fun o e=>by
     rw[X _ _ dy] at e;rw[<-e];exact d _ _ dy
   ·cases a
  ·cases q
 ·cases q
abbrev jx:List Value:=[.type "ValueError",.type "Exception",.type "BaseException",.type "object"]
section
variable{X:Cx}
def IJ(EX:XK)(C:Addr):TS:=fun _ _ H=>∀x,H x=none->EX (.ref x) (some C) H
def ng{x:Str}{C:Addr}{b:Str}{j:Nat}{M d az pos:Pos}{EX:XK}(hc:X.calm=true)(O:Gl X x)(hm:X.mg x=some (.ref C))(q:PySem.W.excIn X.K C jx "ValueError.__new__"=true)(P:∀(aa:Ψ)(σ:St)(H:Hp)(s:Shared)(x:Addr),Inv X aa σ H s->Xc s.heap x (.ref C) none->H x=none->X.s₀.heap.get? x=none->EX (.ref x) (some C) H->X.xe (.ref x) s)(hex:X.ex=[]:=by rfl)(hd:(x==("__debug__":Str))=false:=by decide)(Q:(backTo az (starEach [Expr.Constant (.str b) j d] X.env)).any (·.1)=false:=by rfl):PS X (.Raise (some (.Call (.Name x M) [.Constant (.str b) j d] [] az)) none pos) (IJ EX C):=by
 intro aa s σ H D I h;obtain⟨bm,N,nm,r,bs,hdct,sn,sub,ab,col,dd,k0,k1,k2,k3,k5,U,w,y,A⟩:=xh I.kIn q;refine wpAny_Raise_call_subU (C:=C) (nm:=nm) (q:=r) (N:=N) (bs:=bs) (bm:=bm) (hdct:=hdct) (sn:=sn) (sub:=sub) (ab:=ab) (col:=col) (dd:=dd) (k0:=k0) (k1:=k1) (k2:=k2) (k3:=k3) (k5:=k5) PySem.F.excBase_ValueError PySem.F.excBase_ValueError.hasB PySem.F.excBase_ValueError (y _ PySem.F.excBase_ValueError.hasBase) (I.ok.hd hc) Q w ?_;refine aR (gP (v:=.ref C) O hm rfl hd aa s σ H (fun v H1=>v=.ref C/\H1=H) I ⟨rfl,rfl⟩) fun f g ⟨v,H1,S,i,e1,e2⟩=>?_;subst e1 e2;cases i;refine⟨rfl,?_⟩;have L:=(af pe_str ao:PA X [Expr.Constant (.str b) j d] _) az aa g σ H1 (fun vs H2=>vs=[.str b]/\H2=H1) S ⟨rfl,rfl⟩;refine Calls.evalArgs_plain (aR L fun us c ⟨vs,H2,I2,l,e3,p⟩=>?_);subst e3 p;obtain⟨E,G,J⟩:=A c.heap I2.kIn;refine⟨rfl,?_,E,G,J,fun h' e hm=>?_⟩
 ·rw[<-l.length];show 1<=sizeLine;decide
 obtain⟨t,ht,_,_⟩:=hm.there;have T:Inv X aa σ H2 {c with heap:=h'}:=I2.kept (t':=c.toks) hm.keeps;have he:H2 e=none:=by
  cases z:H2 e with
  |none=>rfl
  |some u=>
   obtain⟨o,a⟩:=II (I2.hok e u z);rw[hm.new] at a;cases a
 refine P aa σ H2 _ e T ⟨_,_,ht,rfl,rfl,rfl,(by show 1<6;decide),.inl ⟨rfl,rfl⟩⟩ he ?_ (h e he);cases z:X.s₀.heap.get? e with
 |none=>rfl
 |some o=>
  obtain⟨o',a⟩:=I2.base.there e o z (by rw[hex];simp);rw[hm.new] at a;cases a
end
section
variable{M:Model}{A:Around}{E:Ω}{s:Shared}
def IK{base:Heap}{env:Env}{outer:List Env}{L x:Addr}{C:Value}{T:Option Addr}{Q:Unit->Shared->Prop}(hfr:A.frames=some (env::outer))(l:s.heap.FunFrames base (env::outer))(hf:env.frame=some L)(he:Xc s.heap x C T)(h:∀h' T',s⁻¹<=T'->Xc h' x C (some T')->gU ((env::outer).filterMap (·.frame)) x T s.heap h'->Q () {s with heap:=h'}):wpAny M A (noteFrame (.ref x) env) (fun _ w=>wpAny M A (setFlight (.ref x) none) Q E w) E s:=by
 obtain⟨D,vs,he,rfl,p,hd,hsz,h1⟩:=he;unfold noteFrame;simp only[hf];rcases h1 with ⟨rfl,h1⟩|⟨a,F,ts,rfl,h1,z,i,j,r⟩
 ·refine Aa (AN he hd h1 ?_)
  rw[if_neg ξ];exact nf hfr l hf he p hd hsz h
 ·refine Aa (AN he hd h1 ?_)
  rw[if_pos (show(Value.ref a != Value.none)=true from by simp)];refine Aa (AN i j r ?_);rw[if_neg (show ¬((Value.none==rawInt L)=true) from by simp[rawInt])];refine Aa (A8 i j (Array.getElem?_eq_some_iff.mp r).1 ?_);have f:∀b,b≠a->(s.heap.update a (A5 (·.setIfInBounds 3 Value.none))).get? b=s.heap.get? b:=fun b hb=>AL _ _ (Ne.symm hb);have v:∀b o,s.heap.get? b=some o->(∀vs,o.data≠.fields vs)->b≠a:=fun b o hb c q=>by
   rw[q,i] at hb;injection hb with hb;subst hb;exact c ts j
  refine nf hfr (l.of_keeps fun b o hb c=>⟨o,(f b (v b o hb c)).trans hb,rfl⟩) hf ((f x (Ne.symm z)).trans he) p hd hsz fun h' T' hT' hx hk=>h h' T' (by rw[AO] at hT';exact hT') hx ?_;obtain⟨k1,k2,k3⟩:=hk;refine⟨fun b o hb y g d=>k1 b o ((f b fun e=>g (by rw[e])).trans hb) y (by simp) d,fun b o hb d=>?_,by rw[AO] at k3;exact k3⟩;obtain⟨_,o',u,c⟩:=l.mem d;rw[hb] at u;cases u;exact k2 b o ((f b (v b o hb c)).trans hb) d
def IL{x:Addr}{C:Value}{T:Addr}{Q:Unit->Shared->Prop}(he:Xc s.heap x C (some T))(h:∀h',Xc h' x C (some T)->gU [] x (some T) s.heap h'->Q () {s with heap:=h'}):wpAny M A (setFlight (.ref x) none) Q E s:=by
 obtain⟨j,vs,he,rfl,l,hd,hsz,h1⟩:=he;rcases h1 with ⟨z,_⟩|⟨a,r,ts,z,h1,g,i,f,p⟩
 ·cases z
 cases z;unfold setFlight;refine Aa (AN he hd h1 ?_);rw[if_pos (show(Value.ref T != Value.none)=true from by simp)];have c:=(Array.getElem?_eq_some_iff.mp p).1;refine A8 i f c (h _ ?_ ?_)
 ·refine⟨j,vs,?_,rfl,l,hd,hsz,.inr ⟨T,_,_,rfl,h1,g,Heap.get?_update_self _ i (Obj.isFreed_of_fields (A0 f _)),A0 f _,?_⟩⟩
  ·rw[AL _ _ g];exact he
  ·simp[c]
 ·refine⟨fun b o hb q d _=>?_,fun b o _ z=>absurd z (by simp),by rw[AO];exact Ag _⟩
  rw[AL _ _ (fun e=>d (by rw[e]))];exact hb
def IM{C S:Addr}{nm q N bs bm hdct sn sub ab col dd k0 k1 k2 k3 k5 bL}{ii q' N' gX fA bU hG dm ig dC eD h_ io im ip iD cb}{h:Heap}{g:Array GenState}{d:Drawn}{t:Nat}{os:OsState}{e:Addr}{b:Obj}{Q:Bool->Shared->Prop}(i:h.get? C=some (excClassObj nm q C N bs bm hdct sn sub ab col dd k0 k1 k2 k3 k5 bL))(c:h.get? S=some (excClassObj ii q' S N' gX fA bU hG dm ig dC eD h_ io im ip iD cb))(he:h.get? e=some b)(j:b.cls=.ref C)(l:fA.contains (.type "BaseException")=true)(o:(Value.ref C::bm).contains (.ref S)=true)(hq:Q true ⟨h,g,d,t,os⟩):wpAny M A (excMatches (.ref e) (.ref S)) Q E ⟨h,g,d,t,os⟩:=by
 have a:(Value.ref S::fA).contains (.type "BaseException")=true:=by rw[List.contains_cons,l,Bool.or_true]
 have f:=tc_notTuple;unfold excMatches
 repeat(first|(with_reducible refine wpAny_loadPart_at he ?_;rw[j])|with_reducible refine wpAny_loadPart_at c ?_|(with_reducible refine wpAny_isSubtype_exc c ?_;rw[a])|(with_reducible refine wpAny_isSubtype_exc i ?_;rw[o])|wp_step)
 exact hq
end
section
variable{X:Cx}{aa:Ψ}{σ:List (Option V)}{H H':Hp}{s:Shared}{h':Heap}
structure Off(X:Cx)(aa:Ψ)(x:Addr):Prop where
 s0:X.s₀.heap.get? x=none
 lo:x≠X.env.locals
 ce:∀y c,X.env.cells.lookup y=some c->c≠x
 pn:∀p∈X.pn++aa,p.1≠x
def Inv.off(I:Inv X aa σ H s)(hex:X.ex=[]){x:Addr}(h:s.heap.get? x=none):Off X aa x:=by
 refine⟨?_,fun e=>?_,fun y c e z=>?_,fun p hp z=>?_⟩
 ·cases q:X.s₀.heap.get? x with
  |none=>rfl
  |some o=>
   obtain⟨o',e⟩:=I.base.there x o q (by rw[hex];simp);rw[h] at e;cases e
 ·obtain⟨m,⟨o,_,_,a,_⟩,_⟩:=I.loc
  rw[<-e,h] at a;cases a
 ·obtain⟨v,o,a,_⟩:=I.cell y c e
  rw[z,h] at a;cases a
 ·have:=(I.pin p hp).1
  rw[z,h] at this;cases this
def Inv.stepN{ch:List Addr}(I:Inv X aa σ H s)(j:∀b∈ch,Off X aa b)(keep:∀b o,b≠X.env.locals->b∉X.fs->b∉ch->s.heap.get? b=some o->H b=none->h'.get? b=some o)(slot:∀b o,b≠X.env.locals->b∈X.fs->b∉ch->s.heap.get? b=some o->H b=none->∃A,h'.get? b=some {o with slots:=A})(free:∀b o,b∉ch->s.heap.get? b=some o->H b=none->H' b=none)(there:∀b o,b∉ch->s.heap.get? b=some o->∃o',h'.get? b=some o')(tups:∀b xs,H b=some (.tup xs)->H' b=some (.tup xs))(frzs:∀b o u,H b=some (.frz o u)->H' b=some (.frz o u))(tbls:∀b ps,H b=some (.tbl ps)->∃more,H' b=some (.tbl (ps++more)))(ns:∀m,s.heap.Ns X.env.locals m->h'.Ns X.env.locals m)(C:HOk X.prog X.w H' h'):Inv X aa σ H' {s with heap:=h'}:=by
 have h:∀b o,X.s₀.heap.get? b=some o->b≠X.env.locals:=fun b o e=>Ar (Az (Ah e) I.ok.above);have y:∀b o,X.s₀.heap.get? b=some o->b∉ch:=fun b o e hb=>by
  rw[(j b hb).s0] at e;cases e
 have a:∀x c,X.env.cells.lookup x=some c->∀v,s.heap.IsCell c v->h'.IsCell c v:=fun x c e v ⟨o,g,hd⟩=>by
  have f:c∉ch:=fun z=>(j c z).ce x c e rfl
  by_cases hc:c∈X.fs
  ·obtain⟨A,q⟩:=slot c o (I.cne x c e) hc f g (I.freeC x c e)
   exact⟨_,q,hd⟩
  ·exact⟨o,keep c o (I.cne x c e) hc f g (I.freeC x c e),hd⟩
 refine⟨I.ok,I.os,I.bare,⟨fun b o e n hb hx=>?_,fun b o e n hb hx=>?_,fun b o e n hx=>?_,fun b o e hx=>?_,fun b xs e=>tups b xs (I.base.tups b xs e),fun b o xs e=>frzs b o xs (I.base.frzs b o xs e),fun b ps e=>?_⟩,?_,fun x c e=>?_,?_,fun x c e=>?_,fun p hp=>?_,C,I.len⟩
 ·exact keep b o (h b o e) hb (y b o e) (I.base.keep b o e n hb hx) (I.base.free b o e n hx)
 ·obtain⟨A,e1⟩:=I.base.slot b o e n hb hx
  obtain⟨E,e2⟩:=slot b _ (h b o e) hb (y b o e) e1 (I.base.free b o e n hx);exact⟨E,e2⟩
 ·obtain⟨o',e1⟩:=I.base.there b o e hx
  exact free b o' (y b o e) e1 (I.base.free b o e n hx)
 ·obtain⟨o',e1⟩:=I.base.there b o e hx
  exact there b o' (y b o e) e1
 ·obtain⟨F,e1⟩:=I.base.tbls b ps e
  obtain⟨G,e2⟩:=tbls b _ e1;exact⟨F++G,by rw[e2,Array.append_assoc]⟩
 ·obtain⟨m,J,L⟩:=I.loc
  refine⟨m,ns m J,fun i x v e1 e2 e3=>?_⟩;obtain⟨u,r,l⟩:=L i x v e1 e2 e3;refine⟨u,r,?_⟩;rcases l with l|⟨k,c,e,z⟩
  ·exact .inl l
  ·exact .inr ⟨k,c,e,a x c e _ z⟩
 ·obtain⟨v,z⟩:=I.cell x c e
  exact⟨v,a x c e v z⟩
 ·obtain⟨m,⟨o,_,_,g,_⟩,_⟩:=I.loc
  exact free _ o (fun z=>(j _ z).lo rfl) g I.free
 ·obtain⟨v,o,g,hd⟩:=I.cell x c e
  exact free c o (fun z=>(j c z).ce x c e rfl) g (I.freeC x c e)
 ·obtain⟨e,n,ne,D,d⟩:=I.pin p hp
  have f:p.1∉ch:=fun z=>(j p.1 z).pn p hp rfl;exact⟨keep p.1 p.2 ne D f e n,free p.1 p.2 f e n,ne,D,d⟩
def Inv.xkeep{fr:List Addr}{x:Addr}{T:Option Addr}(I:Inv X aa σ H s)(k:gU fr x T s.heap h')(hfr:∀b∈fr,b∈frs X.stack)(ox:Off X aa x)(hx:H x=none)(d:∀a,T=some a->Off X aa a/\H a=none):Inv X aa σ H {s with heap:=h'}:=by
 have c:∀b o,b∉(x::T.toList)->s.heap.get? b=some o->∃c,h'.get? b=some {o with slots:=c}:=fun b o hc e=>by
  by_cases hb:b∈fr
  ·exact k.2.1 b o e hb
  ·exact⟨o.slots,k.1 b o e (fun z=>hc (by simp[z])) (fun z=>hc (by simp[z])) hb⟩
 refine I.stepN (ch:=x::T.toList) (fun b hb=>?_) (fun b o f hb hc e _=>?_) (fun b o _ _ hc e _=>c b o hc e) (fun _ _ _ _ n=>n) (fun b o hc e=>?_) (fun _ _ e=>e) (fun _ _ _ e=>e) (fun b ps e=>⟨#[],by rw[e];simp⟩) (fun m hm=>?_) (xg I.hok k hx (fun a e=>(d a e).2) fun b hb=>I.stkFree b (hfr b hb))
 ·rcases List.mem_cons.mp hb with z|z
  ·rw[z];exact ox
  ·exact(d b (by simpa using z)).1
 ·exact k.1 b o e (fun z=>hc (by simp[z])) (fun z=>hc (by simp[z])) fun z=>(List.mem_cons.mp (I.stkSub b (hfr b z))).elim f hb
 ·obtain⟨z,e⟩:=c b o hc e
  exact⟨_,e⟩
 ·obtain⟨o,es,ep,g,r⟩:=hm
  obtain⟨z,e⟩:=c _ o (fun z=>by
   rcases List.mem_cons.mp z with z|z
   ·exact ox.lo z.symm
   ·exact(d _ (by simpa using z)).1.lo rfl) g
  exact⟨_,es,ep,e,r⟩
abbrev eM(x C:Addr):HO:=.ext fun h=>∃o,PySem.W.InstAt h x o C none
def Inv.know{x C:Addr}{T:Option Addr}(I:Inv X aa σ H s)(hx:H x=none)(ox:Off X aa x)(e:Xc s.heap x (.ref C) T):Inv X aa σ (upd H x (eM x C)) s:=by
 obtain⟨a,vs,he,hc,h,i,_⟩:=e;have d:PySem.W.notCls a=true:=by unfold PySem.W.notCls;rw[i]
 have f:match a.dict,(none:Option Obj) with|some dx,some o=>s.heap.get? dx=some o|none,none=>True|_,_=>False:=by rw[h];trivial
 have ne:∀b u,H b=some u->b≠x:=fun b u e z=>by rw[z,hx] at e;cases e
 refine I.stepN (h':=s.heap) (ch:=[x]) (fun b hb=>?_) (fun b o _ _ _ e _=>e) (fun b o _ _ _ e _=>⟨o.slots,e⟩) (fun b o hc _ n=>?_) (fun b o _ e=>⟨o,e⟩) (fun b xs e=>?_) (fun b o u e=>?_) (fun b ps e=>⟨#[],?_⟩) (fun m hm=>hm) (fun b u e=>?_)
 ·obtain rfl:b=x:=by simpa using hb
  exact ox
 ·rw[zh (fun z=>hc (by simp[z]))];exact n
 ·rw[zh (ne b _ e)];exact e
 ·rw[zh (ne b _ e)];exact e
 ·rw[zh (ne b _ e),e];simp
 ·by_cases hb:b=x
  ·subst hb
   rw[al] at e;cases e;refine⟨⟨a,he,hc,d,f⟩,⟨a,he⟩,fun h1 h2 ⟨o,e1,e2,e3,g⟩ q=>⟨o,q o e1,e2,e3,?_⟩⟩;cases z:o.dict with
   |none=>trivial
   |some dx=>rw[z] at g;exact g.elim
  ·rw[zh hb] at e
   refine(I.hok b u e).stay (fun c v _ q=>q) (fun c q=>?_) fun c xs q=>?_
   ·rw[zh (ne c _ q)];exact q
   ·rw[zh (ne c _ q)];exact q
end
section
variable{X:Cx}{aa bE:Ψ}{σ:List (Option V)}{H H':Hp}{s:Shared}{h':Heap}{EB:XK}
def IN(X:Cx)(aa:Ψ)(EB:XK):Ω:=fun e s=>∃(x C:Addr)(T:Option Addr)(σ:St)(H:Hp),e=.ref x/\Inv X aa σ H s/\Xc s.heap x (.ref C) T/\H x=none/\Off X aa x/\(∀a,T=some a->Off X aa a/\H a=none)/\EB (.ref x) (some C) H
abbrev XB(X:Cx)(aa:Ψ)(EB:XK):Cx:={X with pn:=X.pn++aa,xe:=IN X aa EB}
abbrev XH(X:Cx)(aa:Ψ)(x:Addr):Cx:={X with A:=X.A.mark (some (.ref x)),calm:=false,pn:=X.pn++aa,xe:=fun _ _=>False}
def Inv.toB(I:Inv X aa σ H s):Inv (XB X aa EB) [] σ H s:=
 ⟨⟨I.ok.mod,I.ok.kind,I.ok.glob,I.ok.blt,I.ok.above,I.ok.inj,I.ok.has,I.ok.cab,I.ok.hd,I.ok.frames,I.ok.stk,I.ok.exf,I.ok.bs,I.ok.bsz,I.ok.noex,I.ok.exfs,I.ok.funs,I.ok.frf⟩,I.os,I.bare,I.base,I.loc,I.cell,I.free,I.freeC,
  fun p hp=>I.pin p (by simpa using hp),I.hok,I.len⟩
def Inv.ofB(I:Inv (XB X aa EB) bE σ H s):Inv X aa σ H s:=
 ⟨⟨I.ok.mod,I.ok.kind,I.ok.glob,I.ok.blt,I.ok.above,I.ok.inj,I.ok.has,I.ok.cab,I.ok.hd,I.ok.frames,I.ok.stk,I.ok.exf,I.ok.bs,I.ok.bsz,I.ok.noex,I.ok.exfs,I.ok.funs,I.ok.frf⟩,I.os,I.bare,I.base,I.loc,I.cell,I.free,I.freeC,
  fun p hp=>I.pin p (List.mem_append_left _ hp),I.hok,I.len⟩
def Inv.toH{x:Addr}(I:Inv X aa σ H s):Inv (XH X aa x) [] σ H s:=
 ⟨⟨I.ok.mod,I.ok.kind,I.ok.glob,I.ok.blt,I.ok.above,I.ok.inj,I.ok.has,I.ok.cab,(fun z=>nomatch z),I.ok.frames,I.ok.stk,I.ok.exf,I.ok.bs,I.ok.bsz,I.ok.noex,I.ok.exfs,I.ok.funs,I.ok.frf⟩,I.os,I.bare,I.base,I.loc,I.cell,I.free,I.freeC,
  fun p hp=>I.pin p (by simpa using hp),I.hok,I.len⟩
def Inv.ofH{x:Addr}(I:Inv (XH X aa x) bE σ H s)(hd:X.calm=true->X.A.handled=none):Inv X aa σ H s:=
 ⟨⟨I.ok.mod,I.ok.kind,I.ok.glob,I.ok.blt,I.ok.above,I.ok.inj,I.ok.has,I.ok.cab,hd,I.ok.frames,I.ok.stk,I.ok.exf,I.ok.bs,I.ok.bsz,I.ok.noex,I.ok.exfs,I.ok.funs,I.ok.frf⟩,I.os,I.bare,I.base,I.loc,I.cell,I.free,I.freeC,
  fun p hp=>I.pin p (List.mem_append_left _ hp),I.hok,I.len⟩
def SP.ofB{D:Ends}{f:Flow}{s':Shared}(h:SP (XB X aa EB) [] D f s'):SP X aa D f s':=by
 cases f with
 |next=>obtain⟨a,H',I,q⟩:=h;exact⟨a,H',I.ofB,q⟩
 |brk=>obtain⟨a,H',I,q⟩:=h;exact⟨a,H',I.ofB,q⟩
 |cont=>obtain⟨a,H',I,q⟩:=h;exact⟨a,H',I.ofB,q⟩
 |ret u=>obtain⟨v,a,H',I,r,q⟩:=h;exact⟨v,a,H',I.ofB,r,q⟩
def IP(hex:X.ex=[]):bW (cO X.prog X.w) (XB X aa EB) EB:=by
 rintro bE σ H1 g e h I ⟨x,C,T,H',rfl,os,c,un,d,i,j,f,hx,l⟩;have I2:Inv (XB X aa EB) bE σ H' h:=I.call' (ch:=[]) os un d c (fun b z=>absurd z (by simp));have J:Inv X aa σ H1 g:=I.ofB;exact⟨x,C,T,σ,H',rfl,I2.ofB,hx,i,J.off hex j,fun a e=>⟨J.off hex (f a e).2,(f a e).1⟩,l⟩
def Inv.gone{i:Nat}{n:Str}{m:Str->Option Value}{u:Option Value}(I:Inv X aa σ H s)(C:X.N.Nodup)(hi:X.N[i]?=some n)(D:∀(i:Nat)(x:Str)(v:V),X.N[i]?=some x->σ[i]?=some (some v)->jB X.env.scope x->∃u,RelV v u/\Look X.env s.heap m x u)(E:h'.Ns X.env.locals fun y=>if y=n then u else m y)(hs:AR X.env.locals s.heap h'):Inv X aa (σ.set i none) H {s with heap:=h'}:=by
 have a:i<σ.length:=by rw[I.len];exact(List.getElem?_eq_some_iff.mp hi).1
 refine⟨I.ok,I.os,I.bare,⟨fun b o e n hb hx=>?_,fun b o e n hb hx=>?_,I.base.free,fun b o e hx=>?_,I.base.tups,I.base.frzs,I.base.tbls⟩,⟨_,E,fun j y h e1 e2 e3=>?_⟩,fun y c e=>?_,I.free,I.freeC,fun p hp=>?_,fun b ob e=>?_,by simpa using I.len⟩
 ·exact(hs.2 b (Ar (Az (Ah e) I.ok.above))).trans (I.base.keep b o e n hb hx)
 ·obtain⟨l,e1⟩:=I.base.slot b o e n hb hx
  exact⟨l,(hs.2 b (Ar (Az (Ah e) I.ok.above))).trans e1⟩
 ·obtain⟨o',e1⟩:=I.base.there b o e hx
  exact⟨o',(hs.2 b (Ar (Az (Ah e) I.ok.above))).trans e1⟩
 ·by_cases f:j=i
  ·subst f
   rw[List.getElem?_set_self a] at e2;cases e2
  ·rw[List.getElem?_set_ne (Ne.symm f)] at e2
   obtain⟨r,w,q⟩:=D j y h e1 e2 e3;refine⟨r,w,?_⟩;rcases q with ⟨k,e⟩|⟨k,c,e,z⟩
   ·refine .inl ⟨k,?_⟩
    have:y≠n:=fun e=>f (sf C e1 (e▸hi));simp[this,e]
   ·exact .inr ⟨k,c,e,z.sameBut hs (I.cne y c e)⟩
 ·obtain⟨g,z⟩:=I.cell y c e
  exact⟨g,z.sameBut hs (I.cne y c e)⟩
 ·obtain⟨e,n,ne,A,d⟩:=I.pin p hp
  exact⟨(hs.2 p.1 ne).trans e,n,ne,A,d⟩
 ·refine(I.hok b ob e).stay (fun c g hc q=>(hs.2 c ?_).trans q) (fun _ q=>q) fun _ _ q=>q
  rintro rfl;rcases hc with z|z
  ·rw[<-z,I.free] at e;cases e
  ·rw[I.free] at z;cases z
def iA(K:Ae)(C S:Addr):Prop:=∀h:Heap,K.In h->∃nm q N bs bm hdct sn sub ab col dd k0 k1 k2 k3 k5 b c d N' e a f g i j l o p r s u v w,
 h.get? C=some (excClassObj nm q C N bs bm hdct sn sub ab col dd k0 k1 k2 k3 k5 b)/\h.get? S=some (excClassObj c d S N' e a f g i j l o p r s u v w)/\
 a.contains (.type "BaseException")=true/\(Value.ref C::bm).contains (.ref S)=true
def xi(K:Ae)(n ie:Nat)(S:Addr)(d:TS)(D:Ends):XK:=fun e c H'=>∃x C,e=.ref x/\c=some C/\iA K C S/\∀a:St,a.length=n->
 d {nx:=fun b H2=>D.nx (b.set ie none) H2,rt:=fun _ _=>False} (a.set ie (some (.ref x))) (upd H' x (eM x C))
def xj(K:Ae)(n ie:Nat)(S:Addr)(t:XK->TS)(a:TS):TS:=fun D σ H=>t (xi K n ie S a D) D σ H
def IQ{n:Str}{ie:Nat}{p:Str}{S:Addr}{body M:List Stmt}{O:Stmt}{t:XK->TS}{P:TS}{np Q pos:Pos}(hex:X.ex=[])(y:X.N.Nodup)(j:X.N[ie]?=some n)(g:X.env.scope.names.lookup n=some .local)(c:X.stack=X.env::X.outer)(hfr:X.env.frame=some X.env.locals)(pA:Gl X p)(ur:X.mg p=some (.ref S))(hb:∀aa EB,PSs (XB X aa EB) body (t EB))(hH:∀aa x,PSs (XH X aa x) (O::M) P)(hd:(p==("__debug__":Str))=false:=by decide):PS X (.Try body [.ExceptHandler (some (.Name p np)) (some n) (O::M) Q] [] [] pos) (xj X.K X.N.length ie S t P):=by
 intro aa s σ H D I h;refine wpAny_Try_except (Bd (hb aa _ [] s σ H D I.toB h) (fun f d q=>?_) (fun e d q=>?_))
 ·have i:SP X aa D f d:=q.ofB
  cases f with
  |next=>exact wpAny_execs_nil i
  |brk=>exact i
  |cont=>exact i
  |ret u=>exact i
 obtain⟨x,C,T,o,H1,rfl,I1,hx,r,ox,hT,x',C',e1,e2,sub,k⟩:=q;cases e1;cases e2;have qT:=c;refine IK (base:=X.base) (outer:=X.outer) (L:=X.env.locals) (by rw[<-c];exact I1.ok.frames) (by rw[<-c];exact I1.stack) hfr hx fun h2 T2 A E Y=>?_;have I2:Inv X aa o H1 {d with heap:=h2}:=I1.xkeep Y (fun b z=>by rw[c];exact z) ox r hT;have ul:d.heap.get? T2=none:=Heap.get?_none_of_le A;have qm:Off X aa T2:=I1.off hex ul;have uF:H1 T2=none:=I1.hok.fresh A;refine wpAny_handleBy_cons (codeAny_handlers_test ?_) (by intro q;cases q);refine k8 (X:=XH X aa x) (I2.toH (x:=x)) pA ur ?_ hd;obtain⟨nm,q,N,bs,bm,hdct,sn,dm,ab,col,dd,k0,k1,k2,k3,k5,bL,ii,i,N',gX,fA,bU,hG,nX,ig,dC,eD,h_,io,im,ip,iD,cb,hC,hS,kg,br⟩:=sub h2 I2.kIn;obtain⟨oe,vs,e_,w,_⟩:=id E;refine IM hC hS e_ w kg br ?_;show codeAny _ _ _ _ _;refine codeAny_handlers_suite_as ?_;refine IL E fun h4 Z fZ=>?_;have I4:Inv X aa o H1 {d with heap:=h4}:=I2.xkeep (h':=h4) fZ (fun b z=>absurd z (by simp)) ox r (fun a e=>by cases e;exact⟨qm,uF⟩);have I5:Inv X aa o (upd H1 x (eM x C)) {d with heap:=h4}:=I4.know r ox Z;refine nJ (X:=XH X aa x) (I5.toH (x:=x)) y j (.inl g) (v:=.ref x) rfl (fun s6 I6=>?_) (.inr g);refine Bd (hH aa x [] s6 _ _ _ I6 (k o I1.len)) (fun f F l=>?_) fun _ _ z=>z.elim;cases f with
 |brk=>obtain⟨_,_,_,z⟩:=l;exact z.elim
 |cont=>obtain⟨_,_,_,z⟩:=l;exact z.elim
 |ret u=>obtain⟨_,_,_,_,_,z⟩:=l;exact z.elim
 |next=>
  obtain⟨G,U,I7,d7⟩:=l;have I7':Inv X aa G U F:=I7.ofH I.ok.hd;show wpAny _ _ (do bindName X.env n .none;unbindBehindTheSuite X.env n Q) _ _ F;refine Aa (wpAny_bindName (nJ I7' y j (.inl g) (v:=.non) rfl (fun s8 I8=>?_) (.inr g)));obtain⟨m,hn,J⟩:=id I8.loc;have kI:ie<G.length:=by rw[I7'.len];exact(List.getElem?_eq_some_iff.mp j).1
  obtain⟨u,_,lk⟩:=J ie n .non j (by rw[List.getElem?_set_self kI]) (.inl g);have kn:X.env.kindOf n=some .local:=g;have hm:m n=some u:=by
   rcases lk with ⟨_,e⟩|⟨z,_⟩
   ·exact e
   ·rw[kn] at z;rcases z with z|z<;>cases z
  unfold unbindBehindTheSuite;refine wpAny_onRaise (wpAny_unbindName_local kn hn hm (by rw[I.ok.kind];rfl) fun h9 u9 qK ug=>?_);have W:=I8.gone y j J qK ug;rw[List.set_set] at W;exact⟨_,U,W,d7⟩
end
def IR{K:Ae}{C:Addr}{name:Str}{a g:Value}(hc:(PySem.W.clsIn K C).isSome=true)(b:PySem.W.findIn K (.ref C) name=some (some a))(c:PySem.W.specialIn K a "__get__"=some (some g))(ht:PySem.W.takesIn K a=some true):PySem.W.findObj K C none name=some (.bind g a):=by
 obtain⟨d,hc⟩:=Option.isSome_iff_exists.mp hc;unfold PySem.W.findObj;rw[hc,Option.bind_some,b,Option.bind_some];simp[c,ht]
structure dU(K:Ae)(D:Addr):Prop where
 ga:PySem.W.findIn K (.ref D) "__getattribute__"=some (some (.builtin "BaseException.__getattribute__"))
 gt:PySem.W.findIn K (.ref D) "__getattr__"=some none
 cls:(PySem.W.clsIn K D).isSome=true
 find:PySem.W.findIn K (.ref D) "__class__"=some (some (.builtin "object.__class__"))
 spec:PySem.W.specialIn K (.builtin "object.__class__") "__get__"=some (some (.builtin "getset_descriptor.__get__"))
 tk:PySem.W.takesIn K (.builtin "object.__class__")=some true
 mro:PySem.W.mroIn K D (.type "object")=some true
 mroB:PySem.W.mroIn K D (.type "BaseException")=some true
section
variable{prog:Program}{w:World}{A:Around}{E:Ω}{s:Shared}{K:Ae}{x D:Addr}{ox:Obj}
def IS{M:Model}{b:Value}{Q:Unit->Shared->Prop}(c:dU K D)(X:K.In s.heap)(I:PySem.W.InstAt s.heap x ox D none)(hq:Q () s):wpAny M A (checkBuiltinCall "BaseException.__getattribute__" ⟨[.ref x,b],[]⟩) Q E s:=by
 obtain⟨e,g,d,t,os⟩:=s;have hk:builtinKind "BaseException.__getattribute__"=some .slot:=δ
 have a:splitId "BaseException.__getattribute__"=some ("BaseException","__getattribute__"):=δ
 have f:=F.args_bexc_ga (.ref x) b;have L0:=I.type (M:=M);have L1:=PySem.W.looks_mroIn (M:=M) X c.mroB;simp only[checkBuiltinCall,hk,a];refine Aa ?_;unfold isInstance;refine Aa (L0.at (L1.at ?_))
 repeat(first|assumption|wp_step)
def IT{tk:Tok}{Q:Fin->Shared->Prop}(c:dU K D)(X:K.In s.heap)(I:PySem.W.InstAt s.heap x ox D none)(hq:Q (.done (.ret (.ref D))) s):wpAny (model prog w) A (Builtin.«object.__getattribute__» ⟨[.ref x,.str "__class__" tk],[]⟩) Q E s:=by
 obtain⟨a,g,d,t,os⟩:=s;have hf:=IR c.cls c.find c.spec c.tk;have L0:=I.type (M:=model prog w);have L1:=PySem.W.looks_find (M:=model prog w) X I hf;unfold Builtin.«object.__getattribute__»
 repeat(first|with_reducible refine Aa (L0.at ?_)|with_reducible refine Aa (L1.at ?_)|wp_step)
 exact PySem.W.class_get (s:=⟨a,g,d,t,os⟩) X I c.mro (Ac hq)
def IU{Q:Option Value->Shared->Prop}(c:dU K D)(X:K.In s.heap)(I:PySem.W.InstAt s.heap x ox D none)(h:Q (some (.ref D)) {s with toks:=s.toks+1}):wpAny (model prog w) A (getAttr? (.ref x) "__class__") Q E s:=by
 obtain⟨a,g,d,t,os⟩:=s;have L0:=I.type (M:=model prog w);have L1:=PySem.W.looks_findIn (M:=model prog w) X c.ga;have L2:=PySem.W.looks_findIn (M:=model prog w) X c.gt;have FA:=F.excAttr_ValueError;have f3:=FA.ga.bind (.ref x);have b:(Value.builtin "BaseException.__getattribute__" == Value.builtin "object.__getattribute__")=false:=δ
 unfold getAttr? getAttrBy? getAttrBy;refine Aa (wpAny_mkText (Aa (wpAny_attempt (AU (Aa (L0.at (Aa (L1.at ?_))))))));dsimp only;rw[if_neg (by rw[b,AW];decide)];unfold getAttrByItsOwn hookBefore;rw[if_pos (show onTheHeap (.ref D)=true from rfl)];refine Aa (L2.at ?_);refine Aa (wpAny_attempt (AU ?_));unfold callGetattribute boundAndCalled;rw[A9,if_neg As,f3];refine Aa (Ac ?_);refine wpAny_call (codeAny_call_builtin FA.ga.plain F.entry_bexc_ga (IS (s:=⟨a,g,d,t+1,os⟩) c X I (IT (s:=⟨a,g,d,t+1,os⟩) c X I ?_)));exact PySem.W.handed_on rfl (Ac h)
end
def IV{K:Ae}{x D:Addr}{ox:Obj}(c:dU K D):PySem.W.KitX K (.ref x) (.ref D) (fun h=>PySem.W.InstAt h x ox D none) where
 ty:=fun _ _ _ I=>I.type
 it:=fun _ _ X _=>by
  obtain⟨d,a⟩:=Option.isSome_iff_exists.mp c.cls;unfold PySem.W.clsIn at a;split at a
  ·rename_i c' d' cd' dJ ho
   intro i j l s' k q;unfold isType loadHead;exact Aa (wpAny_loadPart (k _ _ (X _ _ ho)) (Ac q))
  ·cases a
 ne:=fun h tp dd f n g X b=>by
  obtain⟨d,a⟩:=Option.isSome_iff_exists.mp c.cls;refine Bool.eq_false_iff.mpr fun q=>?_;have e:D=tp:=Value.ref.inj (beq_iff_eq.mp q);subst e;unfold PySem.W.clsIn at a;split at a
  ·rename_i c' d' cd' dJ ho
   have z:=(X _ _ ho).symm.trans b;cases z
  ·cases a
 ca:=fun X I k=>IU c X I k
section
variable{X:Cx}
def CL{c:V}{a:Value}{b:Bool}{C:Addr}(g:∀u,RelV c u->u=a)(xc:dU X.K C)(e:AJ X.K (.ref C) a=some b):cE X (.builtin "isinstance") (fun xs H Q=>∃x,xs=[.ref x,c]/\H x=some (eM x C)/\Q (.bl b) H):=by
 intro aa s σ H xs us Q I r h;obtain⟨x,rfl,hx,q⟩:=h;obtain⟨u,i,rfl,d,f⟩:=vals2 r;obtain rfl:=g _ f;cases(show u=Value.ref x from d);obtain⟨⟨o,p⟩,_⟩:=(show zA X.prog X.w H s.heap x (eM x C) from I.hok x _ hx);exact PySem.W.kia_one (IV xc) I.kIn p e (fun z=>nomatch z) fun tk=>⟨.bl b,H,I.tok _,rfl,q⟩
end
structure zbK(k:Nat)(A:Around):Prop where
 dp:A.depth+3*k+5<recursionLimit
 un:A.units+16*k+200<cLine
def Room.mark{k:Nat}{A:Around}(r:Room k A)(v:Option Value):zbK k (A.mark v):=⟨r.dp,r.un⟩
def zbK.deeper{k:Nat}{A:Around}(r:zbK (k+1) A)(env:Env):zbK k (A.deeper env):=
 ⟨by have:=r.dp;show A.depth+1+3*k+5<_;omega,by have:=r.un;show A.units+3+16*k+200<_;omega⟩
def zbK.depth{k:Nat}{A:Around}(r:zbK k A):A.depth<recursionLimit:=by have:=r.dp;omega
def zbK.units{k:Nat}{A:Around}(r:zbK k A):A.units+64<cLine:=by have:=r.un;omega
structure nh(P:Program)(w:World)(K:Ae)(mg:Str->Option Value)(base:Heap)(k:Nat)(f:Addr)(fd:FuncData)(ps:List Str)(sp:Sp):Prop where
 len:∀vs H Q E,sp vs H Q E->vs.length=ps.length
 run:∀(A:Around)(outer:List Env)(s:Shared)(H:Hp)(args:Args)(us:List Value)(vs:List V)(Q:VK)(E:XK),zbK k A->Env0 P w K mg base A outer s H->BindsTo s fd args (ps.zip us)->Vals vs us->sp vs H Q E->
  codeAny (model P w) A (.call (.ref f) args) (CR aE outer P w H s Q E) s
abbrev nj(P:Program)(w:World)(K:Ae)(mg:Str->Option Value)(base:Heap)(N:List Str)(am:Str)(scope:Scope)(f:Addr)(cd:Value)(A:Around)(outer:List Env)(s:Shared)(H:Hp)(E:XK):Cx:=
 {aZ aE P w K mg base N am scope f cd A outer s H E with calm:=false,xe:=fun _ _=>False}
def IW{P:Program}{w:World}{K:Ae}{mg:Str->Option Value}{base:Heap}{N ps:List Str}{b:Str}{scope:Scope}{f:Addr}{c:Value}{A:Around}{outer:List Env}{s d:Shared}{H:Hp}{E:XK}{us:List Value}{vs:List V}(S:zo N ps scope)(a:Env0 P w K mg base A outer s H)(e:vs.length=ps.length)(r:Vals vs us)(x:InCallC s s⁻¹ (bindL (envOfC b scope s⁻¹ f c).kindOf (ps.zip us) fun _=>none) (cellsFrom (s⁻¹+1) scope.names []) (bindC (envOfC b scope s⁻¹ f c).kindOf (ps.zip us) fun _=>none) d):Inv (nj P w K mg base N b scope f c A outer s H E) [] (start N vs) H d:=by
 have I:Inv (aZ aE P w K mg base N b scope f c {A with handled:=none} outer s H E) [] (start N vs) H d:=yb (A:={A with handled:=none}) S rfl ⟨a.frames,a.mod,a.bs,a.bsz,a.funs,a.frf,a.hok,a.bare⟩ e r x;exact⟨⟨I.ok.mod,I.ok.kind,I.ok.glob,I.ok.blt,I.ok.above,I.ok.inj,I.ok.has,I.ok.cab,(fun z=>nomatch z),Around.frames_deeper a.frames,I.ok.stk,I.ok.exf,I.ok.bs,I.ok.bsz,I.ok.noex,I.ok.exfs,I.ok.funs,I.ok.frf⟩,I.os,I.bare,I.base,I.loc,I.cell,I.free,I.freeC,I.pin,I.hok,I.len⟩
def IX{P:Program}{w:World}{K:Ae}{mg:Str->Option Value}{base:Heap}{k:Nat}{f:Addr}{name a:Str}{i:Arguments}{body:List Stmt}{scope:Scope}{j kV l p cdv ct U:Value}{z X:Option Addr}{F:Array (Option Value)}{N ps:List Str}{sp:Sp}(lk:K.lookup f=some ⟨U,X,.func (PySem.W.fnOf name a i body scope j kV l p z cdv ct),F⟩)(G:PySem.W.codeIn K cdv a=true)(S:zo N ps scope)(len:∀vs H Q E,sp vs H Q E->vs.length=ps.length)(Y:∀(A:Around)(outer:List Env)(s:Shared)(H:Hp)(vs:List V)(Q:VK)(E:XK),zbK k (A.deeper (envOfC a scope s⁻¹ f cdv))->sp vs H Q E->
   ∃t,PSs (nj P w K mg base N a scope f cdv A outer s H E) body t/\t {nx:=fun _ H'=>Q .non H',rt:=Q} (start N vs) H):
  nh P w K mg base (k+1) f (PySem.W.fnOf name a i body scope j kV l p z cdv ct) ps sp:=by
 refine⟨len,fun A outer s H args us vs Q E hr c hb r d=>?_⟩;have M:=len _ _ _ _ d;have D:K.In s.heap:=c.mod.kin.keeps fun b o e=>(c.bs b o e).1;have O:s.heap.NoLimit:=c.mod.nolimit.keeps fun b o e=>(c.bs b o e).1;have T:∀y∈ps.zip us,scope.names.lookup y.1=some .local\/(scope.names.lookup y.1=some .cell/\((cellsFrom (s⁻¹+1) scope.names []).lookup y.1).isSome=true):=fun⟨n,v⟩ hy=>by
  rcases S.par n (List.of_mem_zip hy).1 with q|q
  ·exact .inl q
  ·exact .inr ⟨q,PySem.W.cellsFrom_some _ _ _ (.inl q)⟩
 refine codeAny_call_function hr.depth (D _ _ lk) rfl S.co S.gen rfl (PySem.W.codeRec_of D G) (hb _ _ _ _ ?_);refine wpAny_newFunctionEnv_cells S.kind T fun env he C x=>?_;subst he;refine⟨O.keeps x.toInCall.keep,codeAny_func ?_⟩;obtain⟨t,ht,hq⟩:=Y A outer s H vs Q E (hr.deeper _) d;have I:Inv (nj P w K mg base N a scope f cdv A outer s H E) [] (start N vs) H C:=IW S c M r x;refine Bd (ht [] C (start N vs) H _ I hq) (fun L s' hs=>?_) fun e s' hs=>hs.elim;have fin:∀{g:St}{H':Hp}{v:V}{u:Value},Inv (nj P w K mg base N a scope f cdv A outer s H E) [] g H' s'->RelV v u->Q v H'->CE outer P w H s Q u s':=
  fun{g H' v u} J h q=>⟨v,H',J.os,J.bare,J.base,J.hok,h,q⟩
 cases L with
 |ret u=>
  obtain⟨v,g,H',J,h,q⟩:=hs;exact fin J h q
 |next=>
  obtain⟨g,H',J,q⟩:=hs;exact fin (v:=V.non) (u:=Value.none) J rfl q
 |brk=>
  obtain⟨_,_,_,q⟩:=hs;exact False.elim q
 |cont=>
  obtain⟨_,_,_,q⟩:=hs;exact False.elim q
def Fun.okN{P:Program}{w:World}{K:Ae}{mg:Str->Option Value}{base:Heap}{x b:Str}{st:Stmt}{f:Addr}{fd:FuncData}{N ps:List Str}{k:Nat}{sp:Sp}(F:Fun K x b st f fd)(S:zo N ps (ze st))(len:∀vs H Q E,sp vs H Q E->vs.length=ps.length)(d:∀(cdv:Value)(A:Around)(outer:List Env)(s:Shared)(H:Hp)(vs:List V)(Q:VK)(E:XK),zbK k (A.deeper (envOfC b (ze st) s⁻¹ f cdv))->sp vs H Q E->
   ∃t,PSs (nj P w K mg base N b (ze st) f cdv A outer s H E) (zE st) t/\t {nx:=fun _ H'=>Q .non H',rt:=Q} (start N vs) H):nh P w K mg base (k+1) f fd ps sp:=by
 obtain⟨e,g,kV,h,i,j,cdv,ct,l,rfl,lk,c⟩:=F.ex;exact IX lk c S len fun A outer s H vs Q E hr a=>d cdv A outer s H vs Q E hr a
section
variable{X:Cx}{k:Nat}{f:Addr}{fd:FuncData}{ps:List Str}{sp:Sp}{dw:List V}{ds:List Value}{E:XK}{x:Str}{p pos:Pos}{e:Expr}{es:List Expr}{t:TA}
def IY(F:nh X.prog X.w X.K X.mg X.base k f fd ps sp)(hr:zbK k X.A)(g:Gl X x)(hm:X.mg x=some (.ref f))(hk:PySem.W.keepIn X.K (.ref f)=true)(hb:Binds X.K fd ps ds)(hd:Vals dw ds)(i:PA X (e::es) t)(j:(x==("__debug__":Str))=false:=by decide)(he:starEach (e::es) X.env=(false,eval e X.env)::starEach es X.env:=by rfl)(a:(backTo pos (starEach es X.env)).any (·.1)=false:=by rfl):PE X (.Call (.Name x p) (e::es) [] pos) (lA sp dw E t):=by
 intro aa s σ H Q I h;refine wpAny_Call_Name_kw (k8 I g hm ?_ j);refine PySem.W.callWith_K (h₀:=X.base) I.ok.mod.kin hk (aR (i pos aa s σ H _ I h) fun us b ⟨vs,H1,I1,r,q⟩=>⟨I1.kIn,?_⟩) he a;have c:Vals (vs++dw) (us++ds):=r.append hd;have d:(us++ds).length=ps.length:=by rw[<-c.length];exact F.len _ _ _ _ q
 refine wpAny_call (codeAny_mono (F.run X.A X.stack b H1 ⟨us,[]⟩ (us++ds) (vs++dw) Q E hr I1.env0 (hb b us I1.kIn d) c q) fun r s' hq=>?_);cases r with
 |error e=>exact hq.elim
 |ok fl=>
  cases fl with
  |ret u=>exact I1.after hq
  |next=>exact False.elim hq
  |brk=>exact False.elim hq
  |cont=>exact False.elim hq
end
section
variable{X:Cx}
abbrev zk7:V->List V->Hp->VK->Prop:=fun x vs H Q=>∃(l:Addr)(ys:List V)(y:V),x=.ref l/\vs=[y]/\H l=some (.lst ys)/\ys.all eA=true/\eA y=true/\Q (.int (ys.countP fun z=>eC z y)) H
abbrev zk2:V->List V->Hp->VK->Prop:=fun x vs H Q=>∃(l:Addr)(ys:List V)(y:V)(j:Nat),x=.ref l/\vs=[y]/\H l=some (.lst ys)/\ys.all eA=true/\eA y=true/\j<1000/\((ys[j]?).map fun z=>eC z y)=some true/\(∀m,m<j->((ys[m]?).map fun z=>eC z y)=some false)/\Q (.int j) H
def IZ{x:V}{xs:List V}{us:List Value}(h:Vals xs us)(f:xs.all eA=true):us.countP (cV x)=xs.countP fun y=>eC y x:=by
 induction h with
 |nil=>rfl
 |cons r t ih=>
  rw[List.all_cons,AB] at f;rw[List.countP_cons,List.countP_cons,n3 r f.1,ih f.2]
def CM{x:V}{xs:List V}{us:List Value}(h:Vals xs us)(f:xs.all eA=true):∀m:Nat,(us[m]?).map (cV x)=(xs[m]?).map fun y=>eC y x:=by
 induction h with
 |nil=>intro m;simp
 |cons r t ih=>
  rw[List.all_cons,AB] at f;intro m;cases m with
  |zero=>simp[n3 r f.1]
  |succ m=>simpa using ih f.2 m
def I0:hX X "list.count" zk7:=by
 intro aa s σ H x vs v us Q I d f h;obtain⟨l,ys,y,rfl,rfl,i,a,j,q⟩:=h;cases d;obtain⟨u,rfl,o⟩:=f.one;obtain⟨z,b,c,r,w,e⟩:=I.lstM i;refine call_meets F.slot_list_count ⟨_,e,rfl⟩ F.entry_list_count (F.args_list_count_2 _ _) (SeqAt.list_countAt l b.toArray c none #[] u (cV y)) ⟨e,fun g hy=>?_,?_⟩
 ·exact je o j r a g (by simpa using hy)
 ·have p:b.toArray.toList.countP (cV y)=ys.countP fun z=>eC z y:=IZ r a
  exact⟨.int (ys.countP fun z=>eC z y),H,I.tok _,⟨_,by rw[<-p]⟩,q⟩
def I_:hX X "list.index" zk2:=by
 intro aa s σ H x vs v us Q I g i h;obtain⟨l,ys,y,j,rfl,rfl,w,b,A,D,h1,h2,q⟩:=h;cases g;obtain⟨u,rfl,C⟩:=i.one;obtain⟨z,a,c,r,E,e⟩:=I.lstM w;have g1:=(CM (x:=y) r b j).trans h1;have f:j<a.toArray.size:=by
  rcases Nat.lt_or_ge j a.length with q|q
  ·simpa using q
  ·rw[List.getElem?_eq_none q] at g1;cases g1
 have get:∀(m:Nat)(hm:m<a.toArray.size),(a[m]?).map (cV y)=some (cV y a.toArray[m]):=fun m hm=>by
  rw[Af (by simpa using hm)];rfl
 have d:(j:Int)<2 ^ 63-1:=by
  have h1:(j:Int)<1000:=ω
  have h2:(1000:Int)<2 ^ 63-1:=ξ
  omega
 refine call_meets F.slot_list_index ⟨_,e,rfl⟩ F.entry_list_index (F.args_list_index_2 _ _) (SeqAt.list_indexAt l a.toArray c none #[] u (cV y) j f d ?_ ?_) ⟨e,fun o hy=>?_,?_⟩
 ·exact Ai ((get j f).symm.trans g1)
 ·intro m hm p
  exact Ai ((get m hm).symm.trans ((CM (x:=y) r b m).trans (h2 m p)))
 ·exact je C A r b o (by simpa using hy)
 ·exact⟨.int j,H,I.tok _,⟨_,rfl⟩,q⟩
end
def Ja{K:Ae}{C S:Addr}(F:PySem.W.excIn K C jx "ValueError.__new__"=true)(G:PySem.W.excIn K S jx "ValueError.__new__"=true)(m:PySem.W.mroIn K C (.ref S)=some true):iA K C S:=by
 intro h X;obtain⟨bm,N,nm,e,bs,hdct,sn,sub,ab,col,dd,k0,k1,k2,k3,k5,H,_,I,d⟩:=xh X F;obtain⟨f,N',i,j,l,o,p,q,r,s,u,v,w,x,y,A,J,_,D,E⟩:=xh X G;refine⟨nm,e,N,bs,bm,hdct,sn,sub,ab,col,dd,k0,k1,k2,k3,k5,_,i,j,N',l,f,o,p,q,r,s,u,v,w,x,y,A,_,(d h X).1,(E h X).1,D _ ξ,?_⟩;have g:=(d h X).1;unfold PySem.W.mroIn at m;obtain⟨L,a,b⟩:=Option.bind_eq_some_iff.mp m;unfold PySem.W.clsIn at a;split at a
 ·rename_i c' d' cd' dJ ho
  cases a;have z:=(X _ _ ho).symm.trans g;injection z with z
  have c:=congrArg Obj.data z;injection c with c
  subst c;split at b
  ·cases b
  ·exact Ai b
 ·cases a
def Jb{K:Ae}{C:Addr}{bm:List Value}{n:String}(q:PySem.W.excIn K C bm n=true):(PySem.W.clsIn K C).isSome=true:=by
 unfold PySem.W.excIn at q;unfold PySem.W.clsIn;split at q
 ·rename_i ho;rw[ho];rfl
 ·cases q
def XcH(h:Heap)(x:Addr)(C:Value)(a:Addr)(d:Value):Prop:=
 ∃b vs c ts,h.get? x=some b/\b.cls=C/\b.dict=none/\b.data=.fields vs/\1<vs.size/\vs[1]?=some (.ref a)/\a≠x/\h.get? a=some c/\c.data=.fields ts/\ts[3]?=some d
def XcH.xc{h:Heap}{x a:Addr}{C:Value}(q:XcH h x C a .none):Xc h x C (some a):=by
 obtain⟨c,vs,d,ts,h1,h2,e,h4,f,g,i,j,l,b⟩:=q;exact⟨c,vs,h1,h2,e,h4,f,.inr ⟨a,d,ts,rfl,g,i,j,l,b⟩⟩
def Jc{x:Value}{env a:Env}(h:a.frame=env.frame):noteFrame x a=noteFrame x env:=by
 unfold noteFrame PySem.frameOf;rw[h]
section
variable{M:Model}{A:Around}{E:Ω}{s:Shared}
def CN{base:Heap}{env:Env}{outer:List Env}{L x:Addr}{g:Obj}{vs:Array Value}{head:Value}{J:Bool}{Q:Unit->Shared->Prop}(hfr:A.frames=some (env::outer))(y:s.heap.FunFrames base (env::outer))(hf:env.frame=some L)(he:s.heap.get? x=some g)(N:g.dict=none)(hd:g.data=.fields vs)(hsz:1<vs.size)(h:∀h' T',s⁻¹<=T'->XcH h' x g.cls T' (rawInt L)->gU ((env::outer).filterMap (·.frame)) x none s.heap h'->Q () {s with heap:=h'}):wpAny M A (do let a <-frameOf env;let d <-entryPlaceOf L J;let b <-EntryCells.newEntry head a .none (rawInt L) .none d;setField (.ref x) 1 b) Q E s:=by
 have f:x∉(env::outer).filterMap (·.frame):=fun hm=>by
  obtain⟨_,o,j,C⟩:=y.mem hm;rw[he] at j;injection j with j;subst j;exact C vs hd
 refine Aa (wpAny_frameOf_fun hfr y hf fun c i=>?_);refine Aa (wpAny_entryPlaceOf fun d l=>?_);unfold EntryCells.newEntry newFields;refine Aa (AS ?_ (l.sizeOk5 _ _ _ _ _));have r:c.get? x=some g:=(i.2.1 x f).trans he;have u:=Ad (h:=c) {cls:=.type "traceback",dict:=none,data:=.fields ([head,.ref L,.none,rawInt L,.none]++(if d.isEmpty then List.replicate 6 Value.none else d)).toArray} r;have v:c.objs.size≠x:=Nat.ne_of_gt (Ah r);have w:=A0 hd (·.setIfInBounds 1 (Value.ref c.objs.size));have G:=Heap.get?_update_self (A5 (·.setIfInBounds 1 (Value.ref c.objs.size))) u (Obj.isFreed_of_fields w);have H:=(AL (c.push {cls:=.type "traceback",dict:=none,data:=.fields ([head,.ref L,.none,rawInt L,.none]++(if d.isEmpty then List.replicate 6 Value.none else d)).toArray})
  (A5 (·.setIfInBounds 1 (Value.ref c.objs.size))) (Ne.symm v)).trans (Ax c rfl)
 have I:c.objs.size=s⁻¹:=i.1;refine A8 u hd hsz (h _ c.objs.size ω ?_ ?_)
 ·exact⟨_,_,_,_,G,Obj.cls_mapFields _ _,(CK _ _).trans N,w,by simpa using hsz,by simp[hsz],v,H,rfl,by simp⟩
 ·have keep:∀b o,b≠x->c.get? b=some o->
    ((c.push {cls:=.type "traceback",dict:=none,data:=.fields ([head,.ref L,.none,rawInt L,.none]++(if d.isEmpty then List.replicate 6 Value.none else d)).toArray}).update x (A5 (·.setIfInBounds 1 (Value.ref c.objs.size)))).get? b=some o:=fun b o p hb=>by
   rw[AL _ _ (Ne.symm p)];exact Ad _ hb
  refine⟨fun b o hb z _ q=>keep b o z ((i.2.1 b q).trans hb),fun b o hb q=>?_,?_⟩
  ·obtain⟨D,F⟩:=i.2.2 b o hb
   exact⟨D,keep b _ (fun e=>f (e▸q)) F⟩
  ·rw[AO,Heap.size_push]
   show s⁻¹<=c.objs.size+1;omega
def Jd{base:Heap}{env w:Env}{outer:List Env}{L x:Addr}{C:Value}{T:Option Addr}{Q:Unit->Shared->Prop}(hfr:A.frames=some (env::outer))(l:s.heap.FunFrames base (env::outer))(hf:env.frame=some L)(D:w.frame=env.frame)(he:Xc s.heap x C T)(h:∀h' T',s⁻¹<=T'->XcH h' x C T' (rawInt L)->gU ((env::outer).filterMap (·.frame)) x T s.heap h'->Q () {s with heap:=h'}):wpAny M A (noteFrame (.ref x) w) Q E s:=by
 obtain⟨F,vs,he,rfl,p,hd,hsz,h1⟩:=he;rw[Jc D];unfold noteFrame;simp only[hf];rcases h1 with ⟨rfl,h1⟩|⟨a,G,ts,rfl,h1,z,i,j,r⟩
 ·refine Aa (AN he hd h1 ?_)
  rw[if_neg ξ];exact CN hfr l hf he p hd hsz h
 ·refine Aa (AN he hd h1 ?_)
  rw[if_pos (show(Value.ref a != Value.none)=true from by simp)];refine Aa (AN i j r ?_);rw[if_neg (show ¬((Value.none==rawInt L)=true) from by simp[rawInt])];refine Aa (A8 i j (Array.getElem?_eq_some_iff.mp r).1 ?_);have f:∀b,b≠a->(s.heap.update a (A5 (·.setIfInBounds 3 Value.none))).get? b=s.heap.get? b:=fun b hb=>AL _ _ (Ne.symm hb);have v:∀b o,s.heap.get? b=some o->(∀vs,o.data≠.fields vs)->b≠a:=fun b o hb c q=>by
   rw[q,i] at hb;injection hb with hb;subst hb;exact c ts j
  refine CN hfr (l.of_keeps fun b o hb c=>⟨o,(f b (v b o hb c)).trans hb,rfl⟩) hf ((f x (Ne.symm z)).trans he) p hd hsz fun h' T' hT' hx hk=>h h' T' (by rw[AO] at hT';exact hT') hx ?_;obtain⟨k1,k2,k3⟩:=hk;refine⟨fun b o hb y g d=>k1 b o ((f b fun e=>g (by rw[e])).trans hb) y (by simp) d,fun b o hb d=>?_,by rw[AO] at k3;exact k3⟩;obtain⟨_,o',u,c⟩:=l.mem d;rw[hb] at u;cases u;exact k2 b o ((f b (v b o hb c)).trans hb) d
def CO{x a:Addr}{C p:Value}{fr:Option Addr}{Q:Unit->Shared->Prop}(he:XcH s.heap x C a p)(h:∀h',XcH h' x C a (fr.elim .none fun f=>rawInt f)->(∀b,b≠a->h'.get? b=s.heap.get? b)->h'.objs.size=s⁻¹->Q () {s with heap:=h'}):wpAny M A (setFlight (.ref x) fr) Q E s:=by
 obtain⟨j,vs,q,ts,he,hc,l,hd,hsz,h1,d,e,g,o⟩:=he;unfold setFlight;refine Aa (AN he hd h1 ?_);rw[if_pos (show(Value.ref a != Value.none)=true from by simp)];have c:=(Array.getElem?_eq_some_iff.mp o).1;refine A8 e g c (h _ ?_ (fun b hb=>AL _ _ (Ne.symm hb)) (AO _ _ _));have i:=A0 g (·.setIfInBounds 3 (fr.elim Value.none fun f=>rawInt f));exact⟨j,vs,_,_,(AL _ _ d).trans he,hc,l,hd,hsz,h1,d,Heap.get?_update_self _ e (Obj.isFreed_of_fields i),i,by simp[c]⟩
def Je{c:Type}{e:String}{x a:Addr}{C f:Value}{env:Env}{Q:c->Shared->Prop}(he:XcH s.heap x C a f)(h:∀h' d,XcH h' x C a d->(∀b,b≠a->h'.get? b=s.heap.get? b)->h'.objs.size=s⁻¹->E (.ref x) {s with heap:=h'}):wpAny M A (PySem.passOn e (.ref x) env:Sem c) Q E s:=by
 unfold PySem.passOn;obtain⟨g,vs,i,ts,he',hc,j,hd,hsz,h1,l,o,p,r⟩:=id he;refine Aa (AN he' hd h1 ?_);rw[if_neg (show ¬((Value.ref a==Value.none)=true) from by simp)];refine Aa (CO he fun h' q k z=>?_);exact wpAny_throw (h h' _ q k z)
def Jf{base:Heap}{env:Env}{outer:List Env}{L x a:Addr}{C w:Value}{Q:Unit->Shared->Prop}(hfr:A.frames=some (env::outer))(u:s.heap.FunFrames base (env::outer))(hf:env.frame=some L)(he:XcH s.heap x C a w)(h:∀h' T',(T'=a\/s⁻¹<=T')->Xc h' x C (some T')->gU ((env::outer).filterMap (·.frame)) x (some a) s.heap h'->Q () {s with heap:=h'}):wpAny M A (leaving env (.ref x)) Q E s:=by
 obtain⟨G,vs,H,ts,he',rfl,D,hd,hsz,h1,F,l,p,v⟩:=id he;unfold leaving noteFrame;simp only[hf];refine Aa (Aa (AN he' hd h1 ?_));rw[if_pos (show(Value.ref a != Value.none)=true from by simp)];refine Aa (AN l p v ?_);have r:∀b o,s.heap.get? b=some o->(∀vs,o.data≠.fields vs)->b≠a:=fun b o hb c q=>by
  rw[q,l] at hb;injection hb with hb;subst hb;exact c ts p
 by_cases i:(w==rawInt L)=true
 ·rw[if_pos i]
  refine Ac (CO he fun h' q k z=>h h' a (.inl rfl) q.xc ⟨fun b o hb _ d _=>(k b fun e=>d (by rw[e])).trans hb,fun b o hb f=>?_,ω⟩);obtain⟨_,o',g,c⟩:=u.mem f;rw[hb] at g;cases g;exact⟨o.slots,(k b (r b o hb c)).trans hb⟩
 ·rw[if_neg i]
  refine Aa (A8 l p (Array.getElem?_eq_some_iff.mp v).1 ?_);have j:∀b,b≠a->(s.heap.update a (A5 (·.setIfInBounds 3 Value.none))).get? b=s.heap.get? b:=fun b hb=>AL _ _ (Ne.symm hb);refine nf hfr (u.of_keeps fun b o hb c=>⟨o,(j b (r b o hb c)).trans hb,rfl⟩) hf ((j x (Ne.symm F)).trans he') D hd hsz fun h' T' hT' hx hk=>h h' T' (.inr (by rw[AO] at hT';exact hT')) hx ?_;obtain⟨k1,k2,k3⟩:=hk;refine⟨fun b o hb y d f=>k1 b o ((j b fun e=>d (by rw[e])).trans hb) y (by simp) f,fun b o hb f=>?_,by rw[AO] at k3;exact k3⟩;obtain⟨_,o',g,c⟩:=u.mem f;rw[hb] at g;cases g;exact k2 b o ((j b (r b o hb c)).trans hb) f
end
def kQ(X:Cx)(C:Addr)(s₀:Shared)(H₀:Hp)(ex:List Addr)(E:XK):Ω:=fun e s'=>∃(x c:Addr)(T:Option Addr)(H':Hp),e=.ref x/\s'.os=s₀.os/\AllBare s'.gens/\Un (frs X.stack) ex H₀ H' s₀.heap s'.heap/\HOk X.prog X.w H' s'.heap/\
 H' x=none/\(∀b o,s₀.heap.get? b=some o->b∉ex->b≠x/\T≠some b)/\(∀a,T=some a->H' a=none)/\Xc s'.heap x (.ref c) T/\(∃m,s'.heap.Ns C m)/\H' C=none/\x≠C/\T≠some C/\E (.ref x) (some c) H'
abbrev gY(X:Cx)(scope:Scope)(N:List Str)(cl:List (Str×Addr))(C:Addr)(s₀:Shared)(H₀:Hp)(ex:List Addr)(E:XK):Cx:=(cxC X scope N cl C s₀ H₀ ex).wish (kQ X C s₀ H₀ ex E)
def gH(X:Cx)(E:XK):Prop:=∀(aa:Ψ)(σ:St)(H':Hp)(s':Shared)(x C a:Addr)(c:Value),Inv X aa σ H' s'->XcH s'.heap x (.ref C) a c->H' x=none->H' a=none->(∀b o,X.s₀.heap.get? b=some o->b∉X.ex->b≠x/\b≠a)->E (.ref x) (some C) H'->X.xe (.ref x) s'
def Jg{X:Cx}{scope:Scope}{N:List Str}{i:List (Str×Addr)}{C:Addr}{s₀:Shared}{H₀:Hp}{ex:List Addr}{E:XK}:bW (cO X.prog X.w) (gY X scope N i C s₀ H₀ ex E) E:=by
 rintro aa σ H1 f e r I ⟨x,A,T,H',rfl,os,c,un,g,s,j,h,hx,u⟩;have I1:Inv (cxC X scope N i C s₀ H₀ ex) aa σ H1 f:=I.unwish;have I2:Inv (cxC X scope N i C s₀ H₀ ex) aa σ H' r:=I1.call' (ch:=[]) os un g c (fun b z=>absurd z (by simp));obtain⟨D,⟨l,F,G,p,_⟩,_⟩:=I1.loc;obtain⟨v,y,_⟩:=I2.loc;refine⟨x,A,T,H',rfl,I2.os,I2.bare,I2.base,I2.hok,s,fun b o q hb=>?_,fun a e=>(h a e).1,hx,⟨v,y⟩,I2.free,fun z=>?_,fun z=>?_,u⟩
 ·obtain⟨o',e⟩:=I1.base.there b o q hb
  exact⟨fun z=>(by rw[z,j] at e;cases e),fun z=>(by rw[(h b z).2] at e;cases e)⟩
 ·have d:f.heap.get? C=some l:=p
  rw[<-z,j] at d;cases d
 ·have d:f.heap.get? C=some l:=p
  rw[(h C z).2] at d;cases d
def Jh{X:Cx}{E:XK}{use:Option (Value->Sem Unit)}{R:Ω}{D:Addr}{aa:Ψ}{σ:St}{H₀:Hp}{a:Shared}{fp:List Addr}{scope:Scope}{cl:List (Str×Addr)}(y:X.stack=X.env::X.outer)(c9:X.env.frame=some X.env.locals)(fj:gH X E)(I3:Inv X aa σ H₀ a)(I:∀b∈fp,(b∈X.ex\/X.s₀⁻¹<=b)/\b≠X.env.locals/\(∀x c,X.env.cells.lookup x=some c->c≠b)/\∀p∈X.pn++aa,p.1≠b)(C:∀b∈frs X.stack,b≠a⁻¹)(vC:∀b∈fp,b∉frs X.stack):∀e s',kQ X a⁻¹ a H₀ fp E e s'->wpAny (model X.prog X.w) X.A (noteFrame e (compEnvC scope cl a⁻¹ X.env)) (fun _ H=>compPost (model X.prog X.w) X.A X.xe use R (.ref D) a⁻¹ (.error e) H) (fun x H=>compPost (model X.prog X.w) X.A X.xe use R (.ref D) a⁻¹ (.error x) H) s':=by
 rintro e s' ⟨x,Cc,T,H',rfl,os,f,un,g,O,l,hT,hx,⟨m,jL⟩,oY,P,qo,hE⟩;have W:s'.os=a.os:=os;have Is:Inv X aa σ H' s':=I3.call' W un g f I;have mH:=Is.stkFree;have Y:=Is.ok.frames;have Z:=Is.stack;rw[y] at Y Z;refine Jd (env:=X.env) (outer:=X.outer) Y Z c9 rfl hx fun h5 M h ph hk=>?_;have hk':gU (frs X.stack) x T s'.heap h5:=by rw[y];exact hk
 obtain⟨o,es,ep,Q,r⟩:=jL;have u4:=Ah Q;refine⟨m,⟨o,es,ep,hk'.1 _ o Q (Ne.symm P) qo (fun z=>C _ z rfl),r⟩,fun h6 F p_ hcl=>?_⟩;have iW:XcH h6 x (.ref Cc) M (rawInt X.env.locals):=by
  obtain⟨oe,vs,oT,ts,a1,a2,a3,a4,a5,a6,a7,a8,a9,qD⟩:=ph;exact⟨oe,vs,oT,ts,(F.2 x P).trans a1,a2,a3,a4,a5,a6,a7,(F.2 M (Nat.ne_of_gt (Az u4 h))).trans a8,a9,qD⟩
 refine Je iW fun i fl o7 N z7=>?_;have L:∀b u,s'.heap.get? b=some u->b≠x->T≠some b->b≠a⁻¹->b∉frs X.stack->i.get? b=some u:=fun b u q n1 n2 G n4=>
  (N b (Ar (Az (Ah q) h))).trans ((F.2 b G).trans (hk'.1 b u q n1 n2 n4))
 have s:∀b u,s'.heap.get? b=some u->b∈frs X.stack->∃j,i.get? b=some {u with slots:=j}:=fun b u q hb=>by
  obtain⟨j,e⟩:=hk'.2.1 b u q hb;exact⟨j,(N b (Ar (Az (Ah q) h))).trans ((F.2 b (C b hb)).trans e)⟩
 have G:∀b u,a.heap.get? b=some u->b≠a⁻¹:=fun b u q=>Ar (Ah q);have kB:HOk X.prog X.w H' i:=by
  intro b u e;refine(g b u e).stay (fun c v hc q=>L c v q ?_ ?_ ?_ ?_) (fun _ q=>q) fun _ _ q=>q
  all_goals
   have d:H' c≠none:=by
    rcases hc with z|z
    ·rw[z,e];simp
    ·rw[z];simp
  ·exact fun z=>d (z▸O)
  ·exact fun z=>d (hT c z)
  ·exact fun z=>d (z▸oY)
  ·exact fun z=>d (mH c z)
 have I7:Inv X aa σ H' {s' with heap:=i}:=I3.call' (s':={s' with heap:=i}) W (ch:=fp) ⟨fun b u q n hb hx=>?_,fun b u q n hb hx=>?_,un.free,fun b u q hx=>?_,un.tups,un.frzs,un.tbls⟩ kB f I
 ·refine fj aa σ H' _ x Cc M fl I7 o7 O (g.fresh h) (fun b u q hb=>?_) hE
  obtain⟨S,U⟩:=I3.base.there b u q hb;have oy:b∉fp:=fun z=>by
   rcases(I b z).1 with w|w
   ·exact hb w
   ·exact absurd (Ah q) (Nat.not_lt.mpr w)
  obtain⟨v,qv⟩:=un.there b S U oy;exact⟨(l b S U oy).1,Ar (Az (Ah qv) h)⟩
 ·exact L b u (un.keep b u q n hb hx) (l b u q hx).1 (l b u q hx).2 (G b u q) hb
 ·obtain⟨j,e⟩:=un.slot b u q n hb hx
  obtain⟨dJ,J⟩:=s b _ e hb;exact⟨dJ,J⟩
 ·obtain⟨v,e⟩:=un.there b u q hx
  by_cases hb:b∈frs X.stack
  ·obtain⟨j,J⟩:=s b v e hb
   exact⟨_,J⟩
  ·exact⟨v,L b v e (l b u q hx).1 (l b u q hx).2 (G b u q) hb⟩
section
variable{X:Cx}{scope:Scope}{N':List Str}{av:List (Option Nat)}{tg iter bP:Expr}{bq:List Expr}{wi:TI}{g:TG}{tc:TT}{te:TE}{pos:Pos}
def Ji{E:XK}{use:Option (Value->Sem Unit)}{R:Ω}{pp:Pos}(hc:X.calm=true)(hk:scope.kind=.function)(aC:∀y∈scope.names,y.2≠.cell)(aF:∀y∈scope.names,y.2=.local->scope.names.lookup y.1=some .local)(hfr:∀y∈scope.names,y.2=.free->X.env.kindOf y.1=some .cell\/X.env.kindOf y.1=some .free)(bg:lU X.N N' av scope)(hi:PI X tg iter wi)(hg:∀cl C s₀ H₀ ex,PG (gY X scope N' cl C s₀ H₀ ex E) tg g)(ht:∀cl C s₀ H₀ ex,gR (gY X scope N' cl C s₀ H₀ ex E) bq tc)(he:∀cl C s₀ H₀ ex,PE (gY X scope N' cl C s₀ H₀ ex E) bP te)(hs:∀x,foldedSetIterable iter X.env x=pure x){aa:Ψ}{s:Shared}{σ:St}{H:Hp}{Q:VK}(I:Inv X aa σ H s)(h:ka wi av g tc te σ H Q)(hst:X.stack=X.env::X.outer)(c9:X.env.frame=some X.env.locals)(fj:gH X E)(fin:∀(D C:Addr)(H':Hp)(P:Shared)(f:Flow),Left X aa σ H' P C->Q (.ref D) H'->compPost (model X.prog X.w) X.A X.xe use R (.ref D) C (.ok f) P):wpAny (model X.prog X.w) X.A (comprehension (.ListComp bP [⟨tg,iter,bq,0⟩] scope pos) scope X.env pp (newList []) (firstAsync [⟨tg,iter,bq,0⟩]) (firstIter [⟨tg,iter,bq,0⟩] X.env) use) R X.xe s:=by
 have hcl:∀y∈scope.names,y.2=.free->∃c,X.env.cells.lookup y.1=some c:=fun y hy e=>I.ok.has y.1 (hfr y hy e);refine wpAny_comprehension_free (use:=use) rfl hs (yN hcl) hk aF ?_;refine aR (hi aa s σ H _ I h) fun xv s1 h1=>aR h1 fun kf O h2=>?_;obtain⟨it,fp,tn,J,H2,e,I2,T,c7,f2,q⟩:=h2;subst e;have fv:H2 O⁻¹=none:=I2.hok.fresh (Ag _);obtain⟨W,⟨m0,w0⟩,turn⟩:=q O⁻¹ fv;refine AS (wpAny_newFunctionEnv aC (by intro y hy;simp at hy) (fun aq aS aT=>?_) hk);dsimp only at aS aT ⊢;generalize hD:O⁻¹=D at *;obtain⟨l,e3⟩:∃l:Shared,l={O with heap:=O.heap.push {cls:=.type "list",dict:=none,data:=.seq ([]:List Value).toArray}}:=⟨_,rfl⟩;have h3:l.heap=O.heap.push {cls:=.type "list",dict:=none,data:=.seq ([]:List Value).toArray}:=by rw[e3]
 rw[<-h3] at aS aT ⊢;have ai:l⁻¹=D+1:=by rw[h3,Heap.size_push,hD]
 have I3:Inv X aa σ (upd H2 D (.lst [])) l:=by
  rw[e3,<-hD];exact I2.lnew (t':=O.toks) (ys:=[]) .nil (AT _)
 obtain⟨Xc,F⟩:∃Xc,Xc=cxC X scope N' (clOf X.env.cells scope.names []) l⁻¹ l (upd H2 D (.lst [])) fp:=⟨_,rfl⟩;have jl:PG (Xc.wish (kQ X l⁻¹ l (upd H2 D (.lst [])) fp E)) tg g:=by rw[F];exact hg _ _ _ _ _
 have ht':gR (Xc.wish (kQ X l⁻¹ l (upd H2 D (.lst [])) fp E)) bq tc:=by rw[F];exact ht _ _ _ _ _
 have he':PE (Xc.wish (kQ X l⁻¹ l (upd H2 D (.lst [])) fp E)) bP te:=by rw[F];exact he _ _ _ _ _
 have xP:Xc.prog=X.prog:=by rw[F];rfl
 have xw:Xc.w=X.w:=by rw[F];rfl
 have xK:Xc.K=X.K:=by rw[F];rfl
 have xA:Xc.A=X.A:=by rw[F];rfl
 have xc:Xc.calm=true:=by rw[F];exact hc
 have xe:Xc.env=compEnvC scope (clOf X.env.cells scope.names []) l⁻¹ X.env:=by rw[F];rfl
 have xE:Xc.xe=fun _ _=>False:=by rw[F];rfl
 have G:∀x c,(clOf X.env.cells scope.names []).lookup x=some c->X.env.cells.lookup x=some c:=fun x c e=>og hcl (fun p hp=>absurd hp (by simp)) e;have gN:∀b∈fp,b≠D/\b<D:=fun b hb=>by
  obtain⟨ob,eb,_⟩:=T.obj 0 _ c7 b hb;have:=Ah eb;rw[hD] at this;exact⟨Ar this,this⟩
 have hfs:∀b∈frs X.stack,b<D:=fun b hb=>by
  obtain⟨_,ob,eb,_⟩:=I2.stack.mem hb;have:=Ah eb;rw[hD] at this;exact this
 have L:∀b o,l.heap.get? b=some o->aq.get? b=some o:=fun b o e=>by
  have hb:b≠l⁻¹:=Ar (Ah e);exact(aT.2 b hb).trans (Ad _ e)
 have hCf:(upd H2 D (.lst [])) l⁻¹=none:=I3.hok.fresh (Ag _);have Ic:Inv Xc aa (ik av σ) (upd H2 D (.lst [])) {l with heap:=aq}:=by
  have okc:Xc.Ok:=by
   rw[F];refine⟨I.ok.mod,hk,I.ok.glob,I.ok.blt,Ag _,fun x y c a b=>I.ok.inj x y c (G x c a) (G y c b),fun x hx=>?_,(fun x c a=>absurd a As),I.ok.hd,I.ok.frames,.inl rfl,fun b hb=>⟨?_,fun x c e=>?_⟩,fun b o e=>?_,?_,fun b o e z=>?_,fun b hb z=>?_,?_,fun b hb=>?_⟩
   ·have dq:(relabel scope X.env).names.lookup x=some .cell\/(relabel scope X.env).names.lookup x=some .free:=hx
    have key:∃Y,scope.names.lookup x=some Y/\(Y=.free\/Y=.cell):=by
     rcases dq with q|q
     ·obtain⟨Y,e1,e2⟩:=lW q
      rcases e2 with e2|⟨e2,_⟩
      ·exact⟨Y,e1,.inr e2.symm⟩
      ·exact⟨Y,e1,.inl e2⟩
     ·obtain⟨Y,e1,e2⟩:=lW q
      rcases e2 with e2|⟨e2,_⟩
      ·exact⟨Y,e1,.inl e2.symm⟩
      ·exact⟨Y,e1,.inl e2⟩
    obtain⟨Y,e1,e2⟩:=key;have hm:=PySem.mem_of_lookup e1;rcases e2 with rfl|rfl
    ·obtain⟨c,hc'⟩:=j' (cells:=X.env.cells) (acc:=[]) (.inl hm)
     exact zF hc'
    ·exact absurd rfl (aC _ hm)
   ·show b≠l⁻¹
    exact Ar (by rw[ai];exact Bc (gN b hb).2)
   ·exact(f2 b hb).2.2.2.2.1 x c (G x c e)
   ·exact I3.bs b o e
   ·exact AA I.ok.bsz I3.sz
   ·obtain⟨f,_,_,fx,_,_⟩:=f2 b z
    rcases fx with fx|fx
    ·exact I.ok.noex b o e fx
    ·have:=Az (Ah e) I.ok.bsz
     omega
   ·rcases List.mem_cons.mp (I2.stkSub b z) with r|r
    ·exact(f2 b hb).2.1 r
    ·exact(f2 b hb).2.2.1 r
   ·exact I3.stack
   ·exact I3.stkFree b hb
  refine⟨okc,(by rw[F];rfl),I3.bare,?_,?_,fun x c e=>?_,?_,fun x c e=>?_,fun p hp=>?_,?_,?_⟩
  ·rw[F]
   exact Un.kept L
  ·rw[xe]
   refine⟨_,aS,fun i x v e1 e2 e3=>?_⟩;obtain⟨c1,c2⟩:=bg;unfold ik at e2;rw[Ao] at e2;cases e4:av[i]? with
   |none=>rw[e4] at e2;cases e2
   |some cc=>
    rw[e4] at e2;cases cc with
    |none=>cases e2
    |some j=>
     obtain⟨y,d1,d2,d3⟩:=c2 i j e4;have cm:N'[i]?=some x:=by rw[F] at e1;exact e1
     rw[d1] at cm;have ld:y=x:=Ai cm;subst ld;have e5:σ[j]?=some (some v):=by
      simp only[A7,Option.some.injEq] at e2;cases e6:σ[j]? with
      |none=>rw[e6] at e2;cases e2
      |some ov=>rw[e6] at e2;simp only[Option.getD_some] at e2;rw[e2]
     have hm:=PySem.mem_of_lookup d3;have lu:jB X.env.scope y:=by
      rcases hfr _ hm rfl with q|q
      ·exact .inr (.inl q)
      ·exact .inr (.inr q)
     obtain⟨m,_,hl⟩:=I3.loc;obtain⟨u,ru,lk⟩:=hl j y v d2 e5 lu;refine⟨u,ru,?_⟩;have mE:∃c,X.env.cells.lookup y=some c/\l.heap.IsCell c (some u):=by
      rcases lk with ⟨k1,_⟩|⟨_,c,k2,k3⟩
      ·rcases hfr _ hm rfl with q|q
       ·rw[k1] at q;cases q
       ·rw[k1] at q;cases q
      ·exact⟨c,k2,k3⟩
     obtain⟨c,k2,k3⟩:=mE;obtain⟨d,hd'⟩:=j' (cells:=X.env.cells) (acc:=[]) (.inl hm);obtain⟨d',aO⟩:=zF hd';have:c=d':=by
      have:=G y d' aO;rw[k2] at this;exact Ai this
     subst this;refine .inr ⟨?_,c,aO,k3.keeps L⟩;have rl:=ve (scope:=scope) (env:=X.env) (x:=y) (names:=scope.names) (.inl d3);rcases rl with q|q
     ·exact .inr q
     ·exact .inl q
  ·rw[xe] at e
   obtain⟨v,k3⟩:=I3.cell x c (G x c e);exact⟨v,k3.keeps L⟩
  ·rw[xe];exact hCf
  ·rw[xe] at e
   exact I3.freeC x c (G x c e)
  ·have bN:p∈X.pn++aa:=by rw[F] at hp;exact hp
   obtain⟨a1,a2,a3,a4,a5⟩:=I3.pin p bN;refine⟨L _ _ a1,a2,?_,?_,a5⟩
   ·rw[xe]
    show p.1≠l⁻¹;exact Ar (Ah a1)
   ·rw[F]
    intro z;rcases List.mem_cons.mp (I3.stkSub p.1 z) with r|r
    ·exact a3 r
    ·exact a4 r
  ·rw[xP,xw]
   exact I3.hok.kept L
  ·unfold ik
   rw[Ab,bg.1,F]
   rfl
 have leave:∀{M:St}{H':Hp}{P:Shared}{h':Heap},Inv Xc aa M H' P->AR l⁻¹ P.heap h'->Inv X aa σ H' {P with heap:=h'}:=fun{M H' P h'} I4 S=>by
  have Z:∀b o,O.heap.get? b=some o->b≠D/\b≠l⁻¹:=fun b o e=>by
   have hb:=Ah e;rw[hD] at hb;exact⟨Ar hb,Ar (by rw[ai];exact Bc hb)⟩
  have up3:∀b o,O.heap.get? b=some o->l.heap.get? b=some o:=fun b o e=>by rw[h3];exact Ad _ e
  have base:Un (frs X.stack) fp (upd H2 D (.lst [])) H' l.heap P.heap:=by
   have:=I4.base;rw[F] at this;exact this
  have hCn:H' l⁻¹=none:=by
   have:=I4.free;rw[xe] at this;exact this
  have os4:P.os=O.os:=by
   have:=I4.os;rw[F] at this;rw[this];show l.os=O.os;rw[e3]
  refine I2.call' (s':={P with heap:=h'}) (ch:=fp) os4 ⟨fun b o q n hb hx=>?_,fun b o q n hb hx=>?_,fun b o q n hx=>?_,fun b o q hx=>?_,fun b xs q=>?_,fun b o u q=>?_,fun b ps q=>?_⟩ ?_ I4.bare fun b hb=>?_
  ·obtain⟨n1,n2⟩:=Z b o q
   exact(S.2 b n2).trans (base.keep b o (up3 b o q) (by rw[zh n1];exact n) hb hx)
  ·obtain⟨n1,n2⟩:=Z b o q
   obtain⟨sl,e⟩:=base.slot b o (up3 b o q) (by rw[zh n1];exact n) hb hx;exact⟨sl,(S.2 b n2).trans e⟩
  ·obtain⟨n1,n2⟩:=Z b o q
   exact base.free b o (up3 b o q) (by rw[zh n1];exact n) hx
  ·obtain⟨n1,n2⟩:=Z b o q
   obtain⟨o',e⟩:=base.there b o (up3 b o q) hx;exact⟨o',(S.2 b n2).trans e⟩
  ·exact base.tups b xs (by rw[zh (zg q fv)];exact q)
  ·exact base.frzs b o u (by rw[zh (zg q fv)];exact q)
  ·exact base.tbls b ps (by rw[zh (zg q fv)];exact q)
  ·intro b u e
   have fZ:=I4.hok b u e;rw[xP,xw] at fZ;refine fZ.stay (fun c v hc q=>(S.2 c ?_).trans q) (fun _ q=>q) fun _ _ q=>q;rintro rfl;rcases hc with z|z
   ·rw[<-z,hCn] at e;cases e
   ·rw[hCn] at z;cases z
  ·obtain⟨f0,f1,f3,f4,f5,f6⟩:=f2 b hb
   exact⟨f4,f1,f5,f6⟩
 have U:∀{H':Hp},(∀b∈fp,H' b=none)->∀b∈fp,bF Xc aa H' b:=fun{H'} hn b hb=>by
  obtain⟨f0,f1,f3,f4,f5,f6⟩:=f2 b hb;refine⟨hn b hb,?_,?_,.inl (by rw[F];exact hb),fun x c e=>?_,fun p hp=>?_⟩
  ·rw[xe]
   show b≠l⁻¹;exact Ar (by rw[ai];exact Bc (gN b hb).2)
  ·rw[F]
   intro z;rcases List.mem_cons.mp (I2.stkSub b z) with r|r
   ·exact f1 r
   ·exact f3 r
  ·rw[xe] at e
   exact f5 x c (G x c e)
  ·rw[F] at hp
   exact f6 p hp
 subst F;have bad:∀e s',kQ X l⁻¹ l (upd H2 D (.lst [])) fp E e s'->wpAny (model X.prog X.w) X.A (noteFrame e (compEnvC scope (clOf X.env.cells scope.names []) l⁻¹ X.env)) (fun _ bV=>compPost (model X.prog X.w) X.A X.xe use R (.ref D) l⁻¹ (.error e) bV) (fun x bV=>compPost (model X.prog X.w) X.A X.xe use R (.ref D) l⁻¹ (.error x) bV) s':=
  Jh hst c9 fj I3 (fun b hb=>by obtain⟨f0,f1,f3,f4,f5,f6⟩:=f2 b hb;exact⟨f4,f1,f5,f6⟩) (fun b hb=>by obtain⟨_,ob,eb,_⟩:=I3.stack.mem hb;exact Ar (Ah eb))
   (fun b hb z=>by
    obtain⟨f0,f1,f3,f4,f5,f6⟩:=f2 b hb;rcases List.mem_cons.mp (I2.stkSub b z) with r|r
    ·exact f1 r
    ·exact f3 r)
 have loop:∀n s',(∃i M H',Inv (cxC X scope N' (clOf X.env.cells scope.names []) l⁻¹ l (upd H2 D (.lst [])) fp) aa M H' s'/\tn i s'.heap/\(∀b∈fp,H' b=none)/\W i n M H')->
   codeAny (model X.prog X.w) X.A (.compLoop (.ListComp bP [⟨tg,iter,bq,0⟩] scope pos) 0 (.ref it) (.ref D) (compEnvC scope (clOf X.env.cells scope.names []) l⁻¹ X.env)) (compPost (model X.prog X.w) X.A X.xe use R (.ref D) l⁻¹) s':=by
  intro n0 sI l8;refine codeAny_loop rfl (fun n s'=>∃i M H',Inv (cxC X scope N' (clOf X.env.cells scope.names []) l⁻¹ l (upd H2 D (.lst [])) fp) aa M H' s'/\tn i s'.heap/\(∀b∈fp,H' b=none)/\W i n M H') (fun n s' hI=>?_) n0 l8;obtain⟨i,M,H',I',ah,fP,w'⟩:=hI;show wpAny _ X.A ((compTurn (.ListComp bP [⟨tg,iter,bq,0⟩] scope pos) 0 (.ref it) (.ref D) (compEnvC scope (clOf X.env.cells scope.names []) l⁻¹ X.env)).onRaise (fun x=>do noteFrame x (compEnvC scope (clOf X.env.cells scope.names []) l⁻¹ X.env);theTreesLotGoes x)) _ _ s';refine wpAny_noted ?_;rw[compTurn_list];refine Aa (wpAny_standAt (Aa ?_));rcases turn i n M H' w' with ⟨stop,qn⟩|⟨go,step⟩
  ·refine aR (T.done (cxC X scope N' (clOf X.env.cells scope.names []) l⁻¹ l (upd H2 D (.lst [])) fp) rfl rfl rfl hc i aa s' M H' _ I' (U fP) ah stop) fun r P ⟨hr,I4⟩=>?_
   subst hr;refine Ac ?_;obtain⟨m,hn,_⟩:=id I4.loc;refine fin D _ H' P _ ⟨⟨m,hn⟩,I3.sz,fun e=>?_,fun x c e=>?_,fun p hp=>Ar (Ah (I3.pin p hp).1),I4.free,fun h' S=>leave I4 S⟩ qn
   ·obtain⟨m3,md,_⟩:=I3.loc
    obtain⟨o3,_,_,fY,_⟩:=md;exact absurd e.symm (Ar (Ah fY))
   ·obtain⟨v,hv⟩:=I3.cell x c e
    obtain⟨o3,fY,_⟩:=hv;exact Ar (Ah fY)
  ·refine aR (T.item (cxC X scope N' (clOf X.env.cells scope.names []) l⁻¹ l (upd H2 D (.lst [])) fp) rfl rfl rfl hc i aa s' M H' _ I' (U fP) ah go) fun r P ⟨u,hr,h4⟩=>?_
   subst hr;refine Aa (aR h4 fun _ s5 ⟨x,H5,I5,r5,y5,st5,fr5⟩=>?_);have I5':=I5.pinned (U fr5) (T.obj _ _ st5);refine Aa (Bd (jl _ s5 M H5 x u _ (I5'.wish _) r5 (step x H5 y5)) (fun _ s6 h6=>?_) fun e s' z=>bad e s' z);obtain⟨eZ,H6,I6,q6⟩:=h6;have I6:=I6.unwish;refine Aa (Bd (ht' _ s6 eZ H6 _ (I6.wish _) q6) (fun ok s7 h7=>?_) fun e s' z=>bad e s' z);obtain⟨H7,I7,q7⟩:=h7;have I7:=I7.unwish;have again:∀{eU:St}{H8:Hp}{s8:Shared}{m':Nat},Inv (cxC X scope N' (clOf X.env.cells scope.names []) l⁻¹ l (upd H2 D (.lst [])) fp) (aa++jN fp s5.heap) eU H8 s8->m'<n->W (i+1) m' eU H8->
     ∃m,m<n/\∃i M H',Inv (cxC X scope N' (clOf X.env.cells scope.names []) l⁻¹ l (upd H2 D (.lst [])) fp) aa M H' s8/\tn i s8.heap/\(∀b∈fp,H' b=none)/\W i m M H':=fun{eU H8 s8 m'} I8 hm w8=>by
    refine⟨m',hm,i+1,eU,H8,I8.unpinned,T.keep _ _ _ st5 fun b hb o e=>(I8.pin (b,o) (AI _ (AI _ (jO hb e)))).1,fun b hb=>?_,w8⟩;obtain⟨o,e,d⟩:=T.obj _ _ st5 b hb;exact(I8.pin (b,o) (AI _ (AI _ (jO hb e)))).2.1
   cases ok with
   |false=>
    obtain⟨m',hm,w7⟩:=q7;exact Ac ⟨rfl,again I7 hm w7⟩
   |true=>
    refine Aa (Aa (Bd (he' _ s7 eZ H7 _ (I7.wish _) q7) (fun v s8 h8=>?_) fun e s' z=>bad e s' z));obtain⟨y,H8,I8,r8,ys,m',lh,kX,mV,w8⟩:=h8;have I8:=I8.unwish;refine Aa (Bd (zT (X:=cxC X scope N' (clOf X.env.cells scope.names []) l⁻¹ l (upd H2 D (.lst [])) fp) _ s8 eZ H8 (.ref D) [y] (.ref D) [v] (fun _ H9=>H9=upd H8 D (.lst (ys++[y]))) I8 rfl (.cons r8 .nil) ⟨D,ys,y,rfl,rfl,lh,kX,rfl⟩) (fun _ s9 h9=>?_) fun _ _ z=>z.elim);obtain⟨_,H9,I9,_,e9⟩:=h9;subst e9;exact Ac (Ac ⟨rfl,again I9 mV w8⟩)
 have start:∃i M H',Inv (cxC X scope N' (clOf X.env.cells scope.names []) l⁻¹ l (upd H2 D (.lst [])) fp) aa M H' {l with heap:=aq}/\tn i ({l with heap:=aq}:Shared).heap/\(∀b∈fp,H' b=none)/\W i m0 M H':=by
  refine⟨0,ik av σ,upd H2 D (.lst []),Ic,T.keep 0 _ _ c7 fun b hb o e=>L b o (by rw[h3];exact Ad _ e),fun b hb=>?_,w0⟩;rw[zh (gN b hb).1];exact(f2 b hb).1
 have es:({O with heap:=aq,toks:=O.toks+([]:List (Str×Value)).length}:Shared)={l with heap:=aq}:=by rw[e3];rfl
 show codeAny (model X.prog X.w) X.A _ _ ({O with heap:=aq,toks:=O.toks+([]:List (Str×Value)).length}:Shared);rw[es];refine codeAny_compStart_list (loop m0 _ start) (T.self _ 0 _ _ _ ?_ (loop m0 _ start));exact T.keep 0 _ _ c7 fun b hb o e=>L b o (by rw[h3];exact Ad _ e)
def Jj{E:XK}(hc:X.calm=true)(hk:scope.kind=.function)(d:∀y∈scope.names,y.2≠.cell)(i:∀y∈scope.names,y.2=.local->scope.names.lookup y.1=some .local)(hfr:∀y∈scope.names,y.2=.free->X.env.kindOf y.1=some .cell\/X.env.kindOf y.1=some .free)(j:lU X.N N' av scope)(hi:PI X tg iter wi)(l:∀a C s₀ H₀ ex,PG (gY X scope N' a C s₀ H₀ ex E) tg g)(ht:∀a C s₀ H₀ ex,gR (gY X scope N' a C s₀ H₀ ex E) bq tc)(he:∀a C s₀ H₀ ex,PE (gY X scope N' a C s₀ H₀ ex E) bP te)(c:X.stack=X.env::X.outer)(o:X.env.frame=some X.env.locals)(p:gH X E)(hs:∀x,foldedSetIterable iter X.env x=pure x:=by intro _;rfl):PE X (.ListComp bP [⟨tg,iter,bq,0⟩] scope pos) (ka wi av g tc te):=by
 intro aa s σ H Q I h;rw[eval_ListComp];refine Ji (use:=none) hc hk d i hfr j hi l ht he hs I h c o p fun D C H' r f L q=>?_;obtain⟨m,e⟩:=L.ns;exact⟨m,e,fun h' b=>⟨.ref D,H',L.back h' b,rfl,q⟩⟩
end
def Jk{P:Program}{w:World}{K:Ae}{mg:Str->Option Value}{base:Heap}{N:List Str}{j:Str}{scope:Scope}{f:Addr}{l:Value}{A:Around}{outer:List Env}{s:Shared}{H:Hp}{E:XK}
 :gH (aZ (cO P w) P w K mg base N j scope f l A outer s H E) E:=by
 intro aa σ H' s' x C a Q I hx u v d G;have y:s.heap.get? x=none:=by
  cases q:s.heap.get? x with
  |none=>rfl
  |some o=>exact absurd rfl (d x o q (fun z=>absurd (show x∈([]:List Addr) from z) (by simp))).1
 have has:s.heap.get? a=none:=by
  cases q:s.heap.get? a with
  |none=>rfl
  |some o=>exact absurd rfl (d a o q (fun z=>absurd (show a∈([]:List Addr) from z) (by simp))).2
 have D:∀c,some a=some c->H' c=none/\s.heap.get? c=none:=fun c e=>by cases e;exact⟨v,has⟩
 show wpAny (model P w) (A.deeper (envOfC j scope s⁻¹ f l)) (leaving (envOfC j scope s⁻¹ f l) (.ref x)) _ _ s';refine Jf I.ok.frames I.stack rfl hx fun h' T' hT' J hk=>?_;have hfr:=I.stkFree;have hsz:s⁻¹<=s'⁻¹:=I.sz;have O:∀b o,s.heap.get? b=some o->b≠x/\some a≠some b/\b≠s⁻¹:=fun b o e=>by
  have hb:=Ah e;exact⟨fun z=>(by rw[z,y] at e;cases e),fun z=>(by rw[(D b z).2] at e;cases e),Ar hb⟩
 have F:∀b o o',s.heap.get? b=some o->s'.heap.get? b=some o'->b∉frs outer->h'.get? b=some o':=fun b o o' e g hb=>by
  obtain⟨n1,n2,L⟩:=O b o e;refine hk.1 b o' g n1 n2 fun hm=>?_;have r:b∈s⁻¹::frs outer:=hm;rcases List.mem_cons.mp r with z|z
  ·exact L z
  ·exact hb z
 have h:∀b o',s'.heap.get? b=some o'->b∈frs outer->∃p,h'.get? b=some {o' with slots:=p}:=fun b o' g hb=>hk.2.1 b o' g (show b∈s⁻¹::frs outer from Av _ hb);have i:∀b:Addr,b∉(aZ (cO P w) P w K mg base N j scope f l A outer s H E).ex:=fun b z=>absurd (show b∈([]:List Addr) from z) (by simp);refine⟨x,C,some T',H',rfl,I.os,I.bare,⟨fun b o q n hb hx=>?_,fun b o q n hb hx=>?_,fun b o q n hx=>I.base.free b o q n (i b),fun b o q hx=>?_,I.base.tups,I.base.frzs,I.base.tbls⟩,xg I.hok hk u (fun a e=>(D a e).1) hfr,u,y,fun a e=>?_,J,G⟩
 ·exact F b o o q (I.base.keep b o q n hb (i b)) hb
 ·obtain⟨p,e⟩:=I.base.slot b o q n hb (i b)
  obtain⟨M,g⟩:=h b _ e hb;exact⟨M,g⟩
 ·obtain⟨o',e⟩:=I.base.there b o q (i b)
  by_cases hb:b∈frs outer
  ·obtain⟨p,g⟩:=h b o' e hb
   exact⟨_,g⟩
  ·exact⟨o',F b o o' q e hb⟩
 ·cases e
  rcases hT' with rfl|hT'
  ·exact⟨v,has⟩
  refine⟨I.hok.fresh hT',?_⟩;cases q:s.heap.get? T' with
  |none=>rfl
  |some o=>exact absurd (Ah q) (Nat.not_lt.mpr (AA hsz hT'))
section
variable{X:Cx}{scope:Scope}{tg iter bP:Expr}{bq:List Expr}{wi:TI}{g:TG}{tc:TT}{te:TE}{pos:Pos}
def Jl{E:XK}(N N':List Str)(av:List (Option Nat))(c:gH X E)(hi:PI X tg iter wi)(d:∀a C s₀ H₀ ex,PG (gY X scope N' a C s₀ H₀ ex E) tg g)(ht:∀a C s₀ H₀ ex,gR (gY X scope N' a C s₀ H₀ ex E) bq tc)(he:∀a C s₀ H₀ ex,PE (gY X scope N' a C s₀ H₀ ex E) bP te)(hc:X.calm=true:=by rfl)(hk:scope.kind=.function:=by rfl)(e:∀y∈scope.names,y.2≠.cell:=by decide +kernel)(f:∀y∈scope.names,y.2=.local->scope.names.lookup y.1=some .local:=by decide +kernel)(hfr:∀y∈scope.names,y.2=.free->X.env.kindOf y.1=some .cell\/X.env.kindOf y.1=some .free)(h:X.N=N:=by rfl)(i:ir N N' av scope=true:=by decide +kernel)(b:X.stack=X.env::X.outer:=by rfl)(j:X.env.frame=some X.env.locals:=by rfl)(hs:∀x,foldedSetIterable iter X.env x=pure x:=by intro _;rfl):PE X (.ListComp bP [⟨tg,iter,bq,0⟩] scope pos) (ka wi av g tc te):=
 Jj hc hk e f hfr (BH (by rw[h];exact i)) hi d ht he b j c hs
end
def Cl(P:Program)(w:World)(K:Ae)(mg:Str->Option Value)(base:Heap)(CX:ez)(x:Str)(ps:List Str)(k:Nat)(sp:Sp):Prop:=
 ∃(f:Addr)(fd:FuncData),PySem.W.keepIn K (.ref f)=true/\Binds K fd ps []/\mg x=some (.ref f)/\FnOk P w K mg base CX k f fd ps sp
section
variable{X:Cx}{CX:ez}{k n:Nat}{ps:List Str}{sp:Sp}{E:XK}{x:Str}{p pos:Pos}{e:Expr}{es:List Expr}{t:TA}
def zQ(C:Cl X.prog X.w X.K X.mg X.base CX x ps k sp)(hr:Room n X.A)(b:Gl X x)(hx:bW CX X E)(c:PA X (e::es) t)(d:k<=n:=by decide)(g:(x==("__debug__":Str))=false:=by decide)
  (he:starEach (e::es) X.env=(false,eval e X.env)::starEach es X.env:=by rfl) (a:(backTo pos (starEach es X.env)).any (·.1)=false:=by rfl):PE X (.Call (.Name x p) (e::es) [] pos) (lA sp [] E t):=by
 obtain⟨f,fd,hk,hb,hm,F⟩:=C;exact zu F (hr.mono d) b hm hk hb .nil hx c g he a
end
section
variable{P:Program}{w:World}{K:Ae}{mg:Str->Option Value}{base:Heap}{CX:ez}{k:Nat}{f:Addr}{fd:FuncData}{x:Str}{st:Stmt}{ps:List Str}{sp sq:Sp}
def FnOk.or(F:FnOk P w K mg base CX k f fd ps sp)(G:FnOk P w K mg base CX k f fd ps sq):FnOk P w K mg base CX k f fd ps (fun vs H Q E=>sp vs H Q E\/sq vs H Q E):=
 ⟨fun vs H Q E h=>h.elim (F.len vs H Q E) (G.len vs H Q E),fun A outer s H args us vs Q E hr he hb a h=>h.elim (F.run A outer s H args us vs Q E hr he hb a) (G.run A outer s H args us vs Q E hr he hb a)⟩
def dn(F:Fun K x x st f fd)(b:Binds K fd ps [])(m:mg x=some (.ref f))(G:FnOk P w K mg base CX k f fd ps sp):Cl P w K mg base CX x ps k sp:=⟨f,fd,F.kp,b,m,G⟩
structure Df(K:Ae)(x:Str)(st:Stmt)(f:Addr):Prop where
 ex:∃fd,Fun K x x st f fd
 a:PySem.W.nsIn K mainGlobals x=some (some (.ref f))
def xk{h:Value}{i e:Option Addr}{g:Array (Option Value)}{kV b d cdv ct:Value}(a:PySem.W.nsIn K mainGlobals x=some (some (.ref f)))(l:K.lookup f=some ⟨h,i,.func (PySem.W.fnOf x x (zbv st) (zE st) (ze st) .none kV b d e cdv ct),g⟩)(c:PySem.W.codeIn K cdv x=true)(k:PySem.W.keepIn K (.ref f)=true):Df K x st f:=⟨⟨_,Fe l c k⟩,a⟩
structure Nn(K:Ae)(x:Str)(v:Option Value):Prop where
 e:PySem.W.nsIn K mainGlobals x=some v
abbrev BA(x:Str)(st:Stmt)(us:List Value)(r:List (Str×Value)):Prop:=∀(kV bf pm:Value)(an:Option Addr)(cdv ct:Value),bindArgs (PySem.W.fnOf x x (zbv st) (zE st) (ze st) .none kV bf pm an cdv ct) ⟨us,[]⟩=pure r
variable{h:Heap}(X:K.In h)(G:h.Ns mainGlobals mg)
include X G
theorem Nn.m{v:Value}(n:Nn K x (some v)):mg x=some v:=PySem.W.mg_of X G n.e
theorem Nn.n(n:Nn K x none):mg x=none:=PySem.W.mg_none_of X G n.e
theorem Df.m(D:Df K x st f):mg x=some (.ref f):=PySem.W.mg_of X G D.a
theorem Df.g1(D:Df K x st f)(p:Str)(hb:∀a,BA x st [a] [(p,a)]:=by exact fun _ _ _ _ _ _ _=>rfl):∃fd,Fun K x x st f fd/\Binds K fd [p] []/\mg x=some (.ref f):=by
 obtain⟨⟨fd,F⟩,a⟩:=D;refine⟨fd,F,F.binds fun _ _ _ _ _ _ us b=>?_,PySem.W.mg_of X G a⟩
 match us,b with
 |[a],_=>exact hb a _ _ _ _ _ _
theorem Df.g2(D:Df K x st f)(p q:Str)(hb:∀a b,BA x st [a,b] [(p,a),(q,b)]:=by exact fun _ _ _ _ _ _ _ _=>rfl):∃fd,Fun K x x st f fd/\Binds K fd [p,q] []/\mg x=some (.ref f):=by
 obtain⟨⟨fd,F⟩,a⟩:=D;refine⟨fd,F,F.binds fun _ _ _ _ _ _ us c=>?_,PySem.W.mg_of X G a⟩
 match us,c with
 |[a,b],_=>exact hb a b _ _ _ _ _ _
theorem Df.g3(D:Df K x st f)(p q r:Str)(hb:∀a b c,BA x st [a,b,c] [(p,a),(q,b),(r,c)]:=by exact fun _ _ _ _ _ _ _ _ _=>rfl):∃fd,Fun K x x st f fd/\Binds K fd [p,q,r] []/\mg x=some (.ref f):=by
 obtain⟨⟨fd,F⟩,a⟩:=D;refine⟨fd,F,F.binds fun _ _ _ _ _ _ us d=>?_,PySem.W.mg_of X G a⟩
 match us,d with
 |[a,b,c],_=>exact hb a b c _ _ _ _ _ _
theorem Df.g4(D:Df K x st f)(p q r s:Str)(hb:∀a b c d,BA x st [a,b,c,d] [(p,a),(q,b),(r,c),(s,d)]:=by exact fun _ _ _ _ _ _ _ _ _ _=>rfl):∃fd,Fun K x x st f fd/\Binds K fd [p,q,r,s] []/\mg x=some (.ref f):=by
 obtain⟨⟨fd,F⟩,a⟩:=D;refine⟨fd,F,F.binds fun _ _ _ _ _ _ us e=>?_,PySem.W.mg_of X G a⟩
 match us,e with
 |[a,b,c,d],_=>exact hb a b c d _ _ _ _ _ _
theorem Df.g5(D:Df K x st f)(p q r s u:Str)(hb:∀a b c d e,BA x st [a,b,c,d,e] [(p,a),(q,b),(r,c),(s,d),(u,e)]:=by exact fun _ _ _ _ _ _ _ _ _ _ _=>rfl):∃fd,Fun K x x st f fd/\Binds K fd [p,q,r,s,u] []/\mg x=some (.ref f):=by
 obtain⟨⟨fd,F⟩,a⟩:=D;refine⟨fd,F,F.binds fun _ _ _ _ _ _ us g=>?_,PySem.W.mg_of X G a⟩
 match us,g with
 |[a,b,c,d,e],_=>exact hb a b c d e _ _ _ _ _ _
omit X G
theorem Jm{C:Addr}(a:PySem.W.findIn K (.ref C) "__getattribute__"=some (some (.builtin "BaseException.__getattribute__")))(b:PySem.W.findIn K (.ref C) "__getattr__"=some none)(q:PySem.W.excIn K C jx "ValueError.__new__"=true)(c:PySem.W.findIn K (.ref C) "__class__"=some (some (.builtin "object.__class__")))(d:PySem.W.specialIn K (.builtin "object.__class__") "__get__"=some (some (.builtin "getset_descriptor.__get__")))(e:PySem.W.takesIn K (.builtin "object.__class__")=some true)(f:PySem.W.mroIn K C (.type "object")=some true)(g:PySem.W.mroIn K C (.type "BaseException")=some true):dU K C:=
 ⟨a,b,Jb q,c,d,e,f,g⟩
end
end L2
end
section
namespace K18
open K1 Tx
open PySem L2 STb
def dr(c:Nat):Bool:=decide (48<=c/\c<=57)
abbrev Jn:TE:=dZ (fun x y H Q=>∃i j,x=.str i/\y=.str j/\Q (.bl (!(Builtin.Str.occurrences j i 0 j.length 1).isEmpty)) H) (a' 0) (tC (.str "0123456789"))
def nk(c:Nat):(!(Builtin.Str.occurrences ("0123456789":Str) ⟨#[c]⟩ 0 ("0123456789":Str).length 1).isEmpty)=dr c:=by
 rw[StrLaws.found_one];have e:("0123456789":Str).cps.toList=[48,49,50,51,52,53,54,55,56,57]:=δ
 rw[e];unfold dr;refine decide_eq_decide.mpr ?_;simp only[List.mem_cons,List.not_mem_nil,or_false];omega
def okN(m:Int)(x:Str):Bool:=decide ((1:Int)<=(x.length:Int))&&(decide ((x.length:Int)<=m)&&(x.cps.toList.all dr&&!(decide ((1:Int)<(x.length:Int))&&decide (x.cps.toList[0]?=some 48))))
def valN(x:Str):Int:=((PySem.NumText.digitsVal x.cps.toList:Nat):Int)
def qI{m:Int}{x:Str}(h:x.cps.toList.all dr=true)(h1:1<=x.length)(hm:(x.length:Int)<=m)(a:m<=100):intText? x=some (valN x):=by
 refine intText_digits (fun c hc=>?_) (fun e=>?_) ω
 ·have:=List.all_eq_true.mp h c hc
  exact of_decide_eq_true this
 ·have:x.cps.toList.length=x.length:=Au
  rw[e] at this;simp at this;omega
section
variable{P:Program}{w:World}{K:Ae}{mg:Str->Option Value}{base:Heap}{f fN:Addr}{fd:FuncData}
def Jo{H2:Hp}{D:Addr}{x:Str}{Q:VK}(h2:x.length<=100)(f:H2 D=none)(k:∀a,Same H2 a->a D=some (.lst ((x.cps.toList.map dr).map V.bl))->Q (.ref D) a):cF (kj x) (dc 0) bZ Jn [none] H2 D Q:=by
 have hsz:x.cps.size=x.length:=rfl;refine wz (fun j σ ys a=>∃v:Option V,σ=[v]/\Same H2 a/\a D=some (.lst ys)/\ys=((x.cps.toList.map dr).take j).map V.bl) ?_ ?_ ?_
 ·exact⟨none,rfl,Same.new f,al,rfl⟩
 ·rintro j σ ys a c hx g hy ⟨v,rfl,d,b,rfl⟩
  have h:x.cps.toList[j]?=some c:=by simpa using hx
  have e:(x.cps.toList.map dr)[j]?=some (dr c):=by rw[Ao,h];rfl
  refine cx ?_;refine⟨_,rfl,_,_,rfl,rfl,?_⟩;rw[nk c];exact bR (zb ω) g hy b ⟨_,rfl,d.then f,al,by rw[AX e,At];rfl⟩
 ·rintro σ ys a ⟨v,rfl,d,b,rfl⟩
  rw[AD (by simp)] at b;exact k a d b
abbrev xl:Stmt:=top 45
abbrev QX(K:Ae)(C:Addr):Prop:=PySem.W.excIn K C jx "ValueError.__new__"=true
def TR(fN:Addr)(H:Hp)(Q:VK)(E:XK)(b:Bool)(v:V):Prop:=(b=true/\∀H',Same H H'->Q v H')\/(b=false/\∀H',Same H H'->∀x,H' x=none->E (.ref x) (some fN) H')
def xm(fN:Addr):Sp:=fun vs H Q E=>∃x m,vs=[.str x,.int m]/\x.length<=100000/\m<=100/\TR fN H Q E (okN m x) (.int (valN x))
def Jp:zo ["figures","most"] ["figures","most"] (ze xa):=⟨rfl,rfl,rfl,δ,rfl,δ,δ⟩
def Jq{Y:Tok}(F:Fun K "read_number" "read_number" xa f fd)(B:Bt mg)(Z:mg "FIGURES"=some (.str "0123456789" Y))(G:mg "NoNote"=some (.ref fN))(J:QX K fN):FnOk P w K mg base (cO P w) 1 f fd ["figures","most"] (xm fN):=by
 refine F.ok1 Jp (fun vs H Q E h=>?_) (fun cdv A outer s H vs Q E hr h=>?_)
 ·obtain⟨x,m,rfl,_⟩:=h;rfl
 ·obtain⟨x,m,rfl,hz,hm,h⟩:=h
  have u:x.length<=sizeLine:=zb ω;refine⟨_,za (zI (fU (nQ fW fW zf (zk zY rfl B.len cv (af (pv 0) ao)) (pv 1))) (zd (ng (C:=fN) (EX:=E) rfl rfl G J (fun aa σ H' s' x I hx g hs l=>kK I hx g hs (fun a e=>nomatch e) l))) zp)
   (za (zI (fU (iE (zk (oj rfl) rfl B.all oO (af (zw ["figures","most"] ["sign"] [none] (oH (pv 0)) (fun L C s₀ H₀ ex=>zr (i:=0) (cW ["sign"]) rfl (Or.inl rfl)) (fun L C s₀ H₀ ex=>zL)
    (fun L C s₀ H₀ ex=>hJ Ei (pv 0) (gP rfl Z (v:=.str "0123456789") ⟨_,rfl⟩) (by with_unfolding_all rfl)) (hfr:=bK δ)) ao)))) (zd (ng (C:=fN) (EX:=E) rfl rfl G J (fun aa σ H' s' x I hx g hs l=>kK I hx g hs (fun a e=>nomatch e) l))) zp)
   (za (zI (PW.pt (sr (zl iH (zk zY rfl B.len cv (af (pv 0) ao)) zf (au _)) (sk (zl d_ (cA nZ (pv 0) zf (fun _ _=>rfl)) pe_str (au _))))) (zd (ng (C:=fN) (EX:=E) rfl rfl G J (fun aa σ H' s' x I hx g hs l=>kK I hx g hs (fun a e=>nomatch e) l))) zp)
   (zd (zm (zt ol rfl B.int oV (af (pv 0) ao)))))),?_⟩
  have q:∀{H1:Hp},Same H H1->okN m x=false->∀y,H1 y=none->E (.ref y) (some fN) H1:=fun O hb=>by
   rcases h with ⟨b,_⟩|⟨_,k⟩
   ·rw[hb] at b;cases b
   ·exact k _ O
  have o:okN m x=true->∀H',Same H H'->Q (.int (valN x)) H':=fun hb=>by
   rcases h with ⟨_,k⟩|⟨b,_⟩
   ·exact k
   ·rw[hb] at b;cases b
  have M:Same H H:=Same.refl _;refine⟨_,rfl,_,rfl,u,_,_,rfl,rfl,_,rfl,?_⟩
  by_cases h1:(1:Int)<=(x.length:Int)
  rotate_left
  ·rw[decide_eq_false h1]
   exact aW ⟨_,rfl,aK (q M (by unfold okN;rw[decide_eq_false h1];rfl))⟩
  rw[decide_eq_true h1];refine aK ⟨_,rfl,_,_,rfl,rfl,_,rfl,?_⟩
  by_cases h2:(x.length:Int)<=m
  rotate_left
  ·rw[decide_eq_false h2]
   exact aK (q M (by unfold okN;rw[decide_eq_false h2,A9,AW]))
  rw[decide_eq_true h2];refine aW ⟨_,rfl,_,rfl,fun D S=>zH (Jo ω S fun H3 p T=>⟨D,_,rfl,SqL.of T,_,rfl,?_⟩)⟩;rw[List.all_map];cases h3:x.cps.toList.all dr with
  |false=>
   have d:x.cps.toList.all (id ∘ dr)=false:=h3;rw[d];exact aK (q p (by unfold okN;rw[h3,A9,AW,AW]))
  |true=>
   have d:x.cps.toList.all (id ∘ dr)=true:=h3;rw[d];have N:=qI h3 ω h2 hm;refine aW ⟨_,rfl,_,rfl,u,_,_,rfl,rfl,_,rfl,?_⟩;refine bv (fun h4=>?_) (fun h4=>?_)
   ·have U:1<x.length:=by have:=of_decide_eq_true h4;omega
    obtain⟨c,r⟩:∃c,x.cps.toList[0]?=some c:=⟨_,Af (by simp[Str.length] at U ⊢;omega)⟩;refine⟨_,rfl,_,_,c,rfl,rfl,u,zC (j:=0) r,rfl,_,rfl,?_⟩;have W:decide (V.str ⟨#[c]⟩=V.str "0")=decide (c=48):=by
     refine decide_eq_decide.mpr ⟨fun z=>?_,fun z=>?_⟩
     ·injection z with z
      have X:("0":Str)=⟨#[48]⟩:=δ
      rw[X] at z;injection z with z
      simpa using z
     ·rw[z];decide +kernel
    rw[W]
    by_cases hc:c=48
    ·rw[decide_eq_true hc]
     exact aK (q p (by unfold okN;rw[h3,r,hc,h4,decide_eq_true h1,decide_eq_true h2];rfl))
    ·rw[decide_eq_false hc]
     exact aW ⟨_,rfl,_,_,rfl,N,ω,o (by unfold okN;rw[h3,r,h4,decide_eq_true h1,decide_eq_true h2,decide_eq_false (fun z=>hc (Ai z))];rfl) _ p⟩
   ·exact aW ⟨_,rfl,_,_,rfl,N,ω,o (by unfold okN;rw[h3,(Bool.not_eq_true _).mp h4,decide_eq_true h1,decide_eq_true h2];rfl) _ p⟩
def xn(fN:Addr):Sp:=fun vs H Q E=>∃x,vs=[.str x]/\x.length<=100000/\TR fN H Q E (okN 2 x) (.int (valN x))
def Jr:zo ["figures"] ["figures"] (ze w_):=⟨rfl,rfl,rfl,δ,rfl,δ,δ⟩
def Js{tm:Tok}(F:Fun K "read_point" "read_point" w_ f fd)(b:mg "MOST_FIGURES_webnotes"=some (.int 2 tm))(c:Cl P w K mg base (cO P w) "read_number" ["figures","most"] 1 (xm fN)):FnOk P w K mg base (cO P w) 2 f fd ["figures"] (xn fN):=by
 refine F.ok1 Jr (fun vs H Q E h=>?_) (fun cdv A outer s H vs Q E hr h=>?_)
 ·obtain⟨x,rfl,_⟩:=h;rfl
 ·obtain⟨x,rfl,a,h⟩:=h
  refine⟨_,zd (zm (zQ c hr rfl (dR (E:=E)) (af (pv 0) (af (gP rfl b (v:=.int 2) ⟨_,rfl⟩) ao)))),?_⟩;exact⟨_,rfl,x,2,rfl,a,ξ,h⟩
def zO(x:Str):Bool:=(Al x "-").all (okN 2)
def ap(x:Str):List Int:=(Al x "-").map valN
def Jt{H2:Hp}{L D:Addr}{ws:List Str}{Q:VK}{E:XK}(o:H2 L=some (.lst (ws.map V.str)))(p:ws.length<=100000)(hw:∀x∈ws,x.length<=100000)(g:H2 D=none)(k:(ws.all (okN 2)=true/\∀a,Same H2 a->a D=some (.lst ((ws.map valN).map V.int))->Q (.ref D) a)\/(ws.all (okN 2)=false/\∀a,Same H2 a->∀x,a x=none->E (.ref x) (some fN) a)):cF (et K L) (dc 0) bZ (lA (xn fN) [] E (cu (a' 0) cg)) [none] H2 D Q:=by
 refine zV (xs:=ws.map V.str) (fun j σ ys a=>∃v:Option V,σ=[v]/\Same H2 a/\a D=some (.lst ys)/\ys=((ws.map valN).take j).map V.int/\(ws.take j).all (okN 2)=true) ?_ ?_ ?_ ?_
 ·exact⟨none,rfl,Same.new g,al,rfl,rfl⟩
 ·rintro j σ ys a ⟨v,rfl,c,d,rfl,_⟩
  exact SqL.of (c _ _ o)
 ·rintro j σ ys a x hx i hy ⟨v,rfl,c,d,rfl,f⟩
  rw[Ao] at hx;cases eq:ws[j]? with
  |none=>rw[eq] at hx;cases hx
  |some q=>
   rw[eq] at hx;obtain rfl:=Ai hx;have hq:=Ay eq;have l:(ws.map valN)[j]?=some (valN q):=by rw[Ao,eq];rfl
   refine cx ⟨_,rfl,q,rfl,hw q hq,?_⟩;cases hb:okN 2 q with
   |true=>
    refine .inl ⟨rfl,fun h e=>bR (by rw[Ab];exact zb p) i hy (e _ _ d) ⟨_,rfl,(c.trans e).then g,al,by rw[AX l,At];rfl,?_⟩⟩;rw[AX eq,List.all_append,f];simp[hb]
   |false=>
    refine .inr ⟨rfl,fun h e y hy=>?_⟩;rcases k with ⟨b,_⟩|⟨_,k⟩
    ·rw[List.all_eq_true.mp b q hq] at hb;cases hb
    ·exact k h (c.trans e) y hy
 ·rintro σ ys a ⟨v,rfl,c,d,rfl,f⟩
  rw[Ab,take_all] at f;rw[Ab,AD (by rw[Ab];exact Ag _)] at d;rcases k with ⟨_,k⟩|⟨b,_⟩
  ·exact k a c d
  ·rw[f] at b;cases b
def CP(fN:Addr):Sp:=fun vs H Q E=>∃x,vs=[.str x]/\x.length<=99990/\(Al x "-").length<=100000/\(∀z∈Al x "-",z.length<=100000)/\
 ((zO x=true/\∀a H',Same H H'->Tp H' a (ap x)->Q (.ref a) H')\/(zO x=false/\∀H',Same H H'->∀x,H' x=none->E (.ref x) (some fN) H'))
def Ju:zo ["word"] ["word"] (ze w9):=⟨rfl,rfl,rfl,δ,rfl,δ,δ⟩
def Jv(F:Fun K "read_piece" "read_piece" w9 f fd)(B:Bt mg)(l:Cl P w K mg base (cO P w) "read_point" ["figures"] 2 (xn fN)):FnOk P w K mg base (cO P w) 3 f fd ["word"] (CP fN):=by
 refine F.ok1 Ju (fun vs H Q E h=>?_) (fun cdv A outer s H vs Q E hr h=>?_)
 ·obtain⟨x,rfl,_⟩:=h;rfl
 ·obtain⟨x,rfl,o,hs,hw,h⟩:=h
  refine⟨_,zd (zm (zt zZ rfl B.tuple mr (af (Jl (E:=E) ["word"] ["figures"] [none] Jk (zG (zP AK PySem.F.slot_str_split PySem.F.type_str_split jq (pv 0) (af pe_str ao)))
   (fun c C s₀ H₀ ex=>zr (i:=0) (cW ["figures"]) rfl (Or.inl rfl)) (fun c C s₀ H₀ ex=>zL) (fun c C s₀ H₀ ex=>zQ l hr rfl (Jg (E:=E)) (af (pv 0) ao)) (hfr:=bK δ)) ao))),?_⟩
  refine⟨_,rfl,rfl,_,_,rfl,rfl,ξ,zb ω,zb hs,fun S d=>⟨S,rfl,⟨_,SqL.of al⟩,fun D g=>?_⟩⟩;refine zH (Jt al hs hw g ?_);rcases h with ⟨b,k⟩|⟨b,k⟩
  ·refine .inl ⟨b,fun e a j=>⟨D,_,rfl,.inl ⟨SqL.of j,fun t ht=>?_⟩⟩⟩
   exact k t _ (((Same.new d).trans a).trans (Same.new ht)) al
  ·exact .inr ⟨b,fun e a=>k e ((Same.new d).trans a)⟩
end
end K18
end
section
namespace L2
open PySem PySem.Spec PyProof.Rows PySem.Builtin PySem.Builtin.Str
section
variable{X:Cx}
def zmk:V->List V->Hp->VK->Prop:=fun x vs H Q=>∃(z:PySem.Str)(c:Nat),x=.str z/\vs=[.str ⟨#[c]⟩]/\z.length<=sizeLine/\
 (∀A B:List Nat,z.cps.toList=A++c::B->∀D,H D=none->Q (.ref D) (upd H D (.tup [.str ⟨A.toArray⟩,.str ⟨#[c]⟩,.str ⟨B.toArray⟩])))/\
 (c∉z.cps.toList->∀D,H D=none->Q (.ref D) (upd H D (.tup [.str z,.str ⟨#[]⟩,.str ⟨#[]⟩])))
def Jw:hX X "str.partition" zmk:=by
 intro aa s σ H x vs v us Q I e f h;obtain⟨z,c,rfl,rfl,g,j,p⟩:=h;obtain⟨t,rfl⟩:=e;obtain⟨u,rfl,w⟩:=f.one;obtain⟨t',rfl⟩:=w;refine call_meets F.slot_str_partition (typeIs_str _ _ _) F.entry_str_partition (F.args_str_partition_2 _ _) (meets_str_partition z ⟨#[c]⟩ t t' rfl g) ?_;show wants _ _ _ (match occurrences z ⟨#[c]⟩ 0 z.length 1 with|i::_=>_|[]=>_);have hf:=StrLaws.found_one z c;have a:=StrLaws.occ_length_le z ⟨#[c]⟩ 0 z.length 1;have d:=StrLaws.glued_between_self z ⟨#[c]⟩ 1
 match ho:occurrences z ⟨#[c]⟩ 0 z.length 1 with
 |[]=>
  rw[ho] at hf;have y:c∉z.cps.toList:=fun hm=>by rw[decide_eq_true hm] at hf;simp at hf
  dsimp only;refine⟨.ref s⁻¹,_,I.laid (o:=.tup [.str z,.str ⟨#[]⟩,.str ⟨#[]⟩]) (fun b ob q=>Ad _ q) (Ag _) ?_,rfl,p y _ (I.hok.fresh (Ag _))⟩;exact⟨by show 3<=sizeLine;rw[sizeLine_eq];decide,_,.cons ⟨_,rfl⟩ (.cons ⟨_,rfl⟩ (.cons ⟨_,rfl⟩ .nil)),⟨_,Ax _ rfl,rfl,_,rfl⟩⟩
 |i::r::l=>rw[ho] at a;simp at a
 |[i]=>
  rw[ho] at d;have h1:z.cps.toList=(strSub z 0 i).cps.toList++c::(strSub z (i+1) z.length).cps.toList:=by
   have h1:((strSub z 0 i).cps++#[c]++(strSub z (i+1) z.length).cps).toList=z.cps.toList:=congrArg (fun u:PySem.Str=>u.cps.toList) d;rw[<-h1];simp
  dsimp only;rw[show(i+PySem.Str.length ⟨#[c]⟩)=i+1 from rfl];have ext:∀u:PySem.Str,u=⟨u.cps.toList.toArray⟩:=fun u=>by cases u;simp
  have q:=j _ _ h1;rw[<-ext,<-ext] at q;refine⟨.ref s⁻¹,_,I.laid (o:=.tup [.str (strSub z 0 i),.str ⟨#[c]⟩,.str (strSub z (i+1) z.length)]) (fun b ob q=>Ad _ q) (Ag _) ?_,rfl,q _ (I.hok.fresh (Ag _))⟩;exact⟨by show 3<=sizeLine;rw[sizeLine_eq];decide,_,.cons ⟨_,rfl⟩ (.cons ⟨_,rfl⟩ (.cons ⟨_,rfl⟩ .nil)),⟨_,Ax _ rfl,rfl,_,rfl⟩⟩
end
end L2
end
section
namespace K18
open K1 Tx
open PySem L2 STb
def ck(x:Str):Bool:=decide (x.cps.toList.head?=some 45)
def tl(x:Str):Str:=Txt.slice x (some 1) none
def zv(x:Str):Bool:=if ck x=true then okN 30 (tl x) else okN 30 x
def zB(x:Str):Int:=if ck x=true then -valN (tl x) else valN x
def nq{x:Str}(h:ck x=true):(tl x).cps.toList=x.cps.toList.drop 1/\(tl x).length+1=x.length:=by
 have h':=of_decide_eq_true h;have c:1<=x.length:=by
  have:x.cps.toList.length=x.length:=Au;cases e:x.cps.toList with
  |nil=>rw[e] at h';cases h'
  |cons a r=>rw[e] at this;simp at this;omega
 have e:(tl x).cps.toList=x.cps.toList.drop 1:=by
  unfold tl;rw[PyProof.Rows.slice_from_eq (i:=1) (b:=x.length) ξ ω rfl];show List.take _ (List.drop 1 x.cps.toList)=_;refine AD ?_;rw[List.length_drop,Au];have:x.cps.size=x.length:=rfl;omega
 refine⟨e,?_⟩;have h1:(tl x).cps.toList.length=(tl x).length:=Au;have h2:x.cps.toList.length=x.length:=Au;rw[e,List.length_drop,h2] at h1;omega
section
variable{P:Program}{w:World}{K:Ae}{mg:Str->Option Value}{base:Heap}{f fN:Addr}{fd:FuncData}
def CQ(fN:Addr):Sp:=fun vs H Q E=>∃x,vs=[.str x]/\x.length<=100000/\TR fN H Q E (zv x) (.int (zB x))
def Jx:zo ["word"] ["word"] (ze xl):=⟨rfl,rfl,rfl,δ,rfl,δ,δ⟩
def Jy{tm:Tok}(F:Fun K "read_weight" "read_weight" xl f fd)(c:mg "MOST_FIGURES_chainnotes"=some (.int 30 tm))(d:Cl P w K mg base (cO P w) "read_number" ["figures","most"] 1 (xm fN)):FnOk P w K mg base (cO P w) 2 f fd ["word"] (CQ fN):=by
 refine F.ok1 Jx (fun vs H Q E h=>?_) (fun cdv A outer s H vs Q E hr h=>?_)
 ·obtain⟨x,rfl,_⟩:=h;rfl
 ·obtain⟨x,rfl,i,h⟩:=h
  refine⟨_,za (zI (iE (zP AK PySem.F.slot_str_startswith PySem.F.type_str_startswith Ir (pv 0) (af pe_str ao)))
    (zd (zm (li ln (zQ d hr rfl (dR (E:=E)) (af (z0 iz (pv 0) (ge zf) fX) (af (gP rfl c (v:=.int 30) ⟨_,rfl⟩) ao)))))) zp)
   (zd (zm (zQ d hr rfl (dR (E:=E)) (af (pv 0) (af (gP rfl c (v:=.int 30) ⟨_,rfl⟩) ao))))),?_⟩
  have j:("-":Str)=⟨#[45]⟩:=dk;refine⟨_,rfl,rfl,_,45,rfl,by rw[j],?_⟩;refine⟨_,rfl,bv (fun e=>?_) fun e=>?_⟩
  ·have a:ck x=true:=e
   obtain⟨_,l⟩:=nq a;refine⟨_,rfl,_,rfl,_,rfl,zb ω,?_⟩;refine⟨tl x,30,rfl,ω,ξ,?_⟩;unfold zv zB at h;rw[if_pos a,if_pos a] at h;rcases h with ⟨b,k⟩|⟨b,k⟩
   ·exact .inl ⟨b,fun H1 g=>⟨_,rfl,k H1 g⟩⟩
   ·exact .inr ⟨b,k⟩
  ·have a:¬ck x=true:=e
   unfold zv zB at h;rw[if_neg a,if_neg a] at h;exact⟨_,rfl,x,30,rfl,i,ξ,h⟩
end
abbrev qW:Stmt:=top 41
abbrev qX:Stmt:=top 42
abbrev q3:Stmt:=top 43
abbrev xo:Stmt:=top 44
def Jz:A4 "abs"=some (.builtin "abs"):=δ
def CS{n:Nat}(h:n<10 ^ 30):n.log2<1920:=by
 rcases Nat.eq_zero_or_pos n with rfl|hp
 ·decide
 ·refine(Nat.log2_lt (Nat.ne_of_gt hp)).mpr (Az h ?_)
  exact AA (show 10 ^ 30<=2 ^ 128 from ξ) (Nat.pow_le_pow_right ξ ξ)
def CT{a b:Str}(c:a.length<=1)(hb:b.length<=31):JoinOk "" [a,b]=true:=by
 have:¬(0+a.length+("":Str).length+b.length+("":Str).length>sizeLine):=by
  rw[sizeLine_eq,show("":Str).length=0 from rfl];omega
 show(!decide (0+a.length+("":Str).length+b.length+("":Str).length>sizeLine))=true;rw[decide_eq_false this]
 rfl
section
variable{P:Program}{w:World}{K:Ae}{mg:Str->Option Value}{base:Heap}
def CU:Sp:=fun vs H Q _=>∃n,vs=[.int n]/\Sm n/\∀H',Same H H'->Q (.str (fig n)) H'
def q4:zo ["number","block","words","left"] ["number"] (ze q3):=⟨rfl,rfl,rfl,δ,rfl,δ,δ⟩
def JA{f:Addr}{fd:FuncData}(F:Fun K "shown_number" "shown_number" q3 f fd)(ys:mg "str"=none)(l:mg "abs"=none):FnOk P w K mg base aE 1 f fd ["number"] CU:=by
 refine F.ok q4 (fun vs H Q E h=>?_) (fun cdv A outer s H vs Q E hr h=>?_)
 ·obtain⟨n,rfl,_⟩:=h;rfl
 ·obtain⟨n,rfl,hs,k⟩:=h
  have j:n.natAbs<10 ^ 30:=hs;refine⟨_,za (zj (i:=1) q4.nd rfl (Or.inl rfl) (zq lm zf zf))
   (za (zj (i:=2) q4.nd rfl (Or.inl rfl) (zN ao))
   (za (zj (i:=3) q4.nd rfl (Or.inl rfl) (zk Ek rfl l Jz (af (pv 0) ao)))
   (za (D8 A2 (zl xZ (pv 3) (pv 1) (au _)) sG)
   (za (zR (zP AF PySem.F.slot_list_append PySem.F.type_list_append zT (pv 2) (af (zt lw rfl ys mY (af (pv 3) ao)) ao)))
   (za (zR (zP AF PySem.F.slot_list_append PySem.F.type_list_append zT (pv 2) (af (DY (zl jb (pv 0) zf (au _)) pe_str pe_str) ao)))
   (za (zR (ER AF PySem.F.slot_list_reverse PySem.F.type_list_reverse ES (pv 2)))
   (zd (zm (zP AK PySem.F.slot_str_join PySem.F.type_str_join ju pe_str (af (pv 2) ao)))))))))),?_⟩
  refine⟨_,_,rfl,rfl,⟨ξ,ξ,ξ⟩,zb (by simp),fun W a=>⟨_,rfl,n,rfl,?_⟩⟩;have d:=Same.new (o:=.lst []) a;have b:(if n<0 then -n else n)<(10:Int) ^ (60:Int).toNat:=by
   have h1:(if n<0 then -n else n)<10 ^ 30:=by split<;>omega
   exact Int.lt_of_lt_of_le h1 ξ
  refine⟨fun m σ H'=>σ=[some (.int n),some (.int ((10:Int) ^ (60:Int).toNat)),some (.ref W),some (.int (if n<0 then -n else n))]/\H'=upd H W (.lst []),⟨0,rfl,rfl⟩,?_⟩;rintro m σ H' ⟨rfl,rfl⟩;refine⟨_,rfl,_,rfl,_,_,rfl,rfl,_,rfl,?_⟩;rw[decide_eq_false (Int.not_le.mpr b)];refine aW ?_;refine⟨_,rfl,.inl ⟨rfl,_,SqL.of al⟩,_,rfl,_,rfl,CS (by split<;>omega),W,[],_,rfl,rfl,al,zK (by simp),?_⟩;refine⟨_,rfl,.inl ⟨rfl,_,SqL.of al⟩,_,rfl,_,_,rfl,rfl,_,rfl,?_⟩;have g:=(kH (n:=if n<0 then -n else n) (by show(if n<0 then -n else n).natAbs<10 ^ 30;split<;>omega)).2.1;refine bv (fun e=>?_) fun e=>?_
  ·have c:n<0:=of_decide_eq_true e
   refine⟨W,_,_,rfl,rfl,al,zK (by simp),_,rfl,.inl ⟨rfl,_,SqL.of al⟩,W,_,rfl,rfl,al,rfl,_,rfl,_,W,["-",fig (if n<0 then -n else n)],rfl,rfl,SqL.of (by rw[al];rfl),CT ξ ω,?_⟩;rw[show Txt.join "" ["-",fig (if n<0 then -n else n)]=fig n from by rw[<-CH n];simp only[if_pos c]];exact k _ (((d.then a).then a).then a)
  ·have c:¬n<0:=fun z=>e (decide_eq_true z)
   refine⟨W,_,_,rfl,rfl,al,zK (by simp),_,rfl,.inl ⟨rfl,_,SqL.of al⟩,W,_,rfl,rfl,al,rfl,_,rfl,_,W,["",fig (if n<0 then -n else n)],rfl,rfl,SqL.of (by rw[al];rfl),CT ξ ω,?_⟩;rw[show Txt.join "" ["",fig (if n<0 then -n else n)]=fig n from by rw[<-CH n];simp only[if_neg c]];exact k _ (((d.then a).then a).then a)
def CV:Sp:=fun vs H Q _=>∃a p n,vs=[.ref a,.int n]/\Tp H a p/\Tm (p,n)/\∀H',Same H H'->Q (.str (term (p,n))) H'
def JB:zo ["piece","weight"] ["piece","weight"] (ze qX):=⟨rfl,rfl,rfl,δ,rfl,δ,δ⟩
def JC{f fn fp:Addr}{fd b c:FuncData}(F:Fun K "shown_term" "shown_term" qX f fd)(Fn:Fun K "shown_number" "shown_number" q3 fn b)(i:Binds K b ["number"] [])(j:mg "shown_number"=some (.ref fn))(q:FnOk P w K mg base aE 1 fn b ["number"] CU)(Fp:Fun K "shown_piece" "shown_piece" qw fp c)(l:Binds K c ["piece"] [])(o:mg "shown_piece"=some (.ref fp))(r:FnOk P w K mg base aE 1 fp c ["piece"] CJ):FnOk P w K mg base aE 2 f fd ["piece","weight"] CV:=by
 refine F.ok JB (fun vs H Q E h=>?_) (fun cdv A outer s H vs Q E hr h=>?_)
 ·obtain⟨a,p,n,rfl,_⟩:=h;rfl
 ·obtain⟨a,p,n,rfl,g,ht,k⟩:=h
  refine⟨_,zd (zm (zq zi (zq zi (zu q hr rfl j Fn.kp i .nil aw (af (pv 1) ao)) pe_str) (zu r hr rfl o Fp.kp l .nil aw (af (pv 0) ao)))),?_⟩;have h1:(fig n).length<=31:=(kH ht.2.2.2).2.1;have h2:(word p).length<=15:=(jv ht.1 ht.2.2.1).2;have u:(fig n++("*":Str)).length<=32:=by
   show((fig n).cps++("*":Str).cps).size<=32;rw[Array.size_append,show("*":Str).cps.size=1 from δ];have:(fig n).cps.size<=31:=h1;omega
  exact⟨_,rfl,n,rfl,ht.2.2.2,fun H1 d=>⟨_,_,rfl,rfl,zb (by rw[show("*":Str).length=1 from δ];omega),_,rfl,a,p,rfl,d.tp g,ht.2.2.1,ht.1,fun H2 e=>⟨_,_,rfl,rfl,zb ω,k H2 (d.trans e)⟩⟩⟩
end
end K18
end
section
namespace L2
open PySem PySem.Spec PyProof.Rows
section
variable{X:Cx}{aa:Ψ}{σ:St}{H:Hp}{s:Shared}{D:Addr}{o:Obj}{kvs:List (List Key×V)}
def Inv.thaw(I:Inv X aa σ H s)(g:X.H₀ D=none)(d:H D=some (.frz o (.dT kvs))):Inv X aa σ (upd H D (.dT kvs)) s:=by
 have ne:∀{b:Addr},H b=none->b≠D:=fun{b} e=>(zg d e).symm;refine⟨I.ok,I.os,I.bare,⟨I.base.keep,I.base.slot,fun b u e n hx=>?_,I.base.there,fun b xs e=>?_,fun b ob u e=>?_,fun b ps e=>?_⟩,I.loc,I.cell,?_,fun x c e=>?_,fun p hp=>?_,fun b u e=>?_,I.len⟩
 ·have:=I.base.free b u e n hx
  rw[zh (ne this)];exact this
 ·have:=I.base.tups b xs e
  rw[zh (dF this d (by intro z;cases z))];exact this
 ·have hb:b≠D:=fun z=>by rw[z,g] at e;cases e
  rw[zh hb];exact I.base.frzs b ob u e
 ·have hb:b≠D:=fun z=>by rw[z,g] at e;cases e
  rw[zh hb];exact I.base.tbls b ps e
 ·rw[zh (ne I.free)];exact I.free
 ·rw[zh (ne (I.freeC x c e))];exact I.freeC x c e
 ·obtain⟨h,f,i⟩:=I.pin p hp
  exact⟨h,by rw[zh (ne f)];exact f,i⟩
 ·have st:∀{a:Addr}{v:HO},zA X.prog X.w H s.heap a v->zA X.prog X.w (upd H D (.dT kvs)) s.heap a v:=fun{a v} x=>
   x.stay (fun _ _ _ q=>q) (fun c q=>by rw[zh (dF q d (by intro z;cases z))];exact q) fun c xs q=>by rw[zh (dF q d (by intro z;cases z))];exact q
  by_cases hb:b=D
  ·subst hb
   rw[al] at e;cases e;have hx:=I.hok b _ d;exact st (show s.heap.get? b=some o/\zA X.prog X.w H s.heap b (.dT kvs) from hx).2
  ·rw[zh hb] at e
   exact st (I.hok b u e)
def JD(a:Hp)(t:TE):TE:=fun σ H Q=>t σ H fun x H1=>∃D kvs,a D=none/\Rd H1 D (.dT kvs)/\∀H2,H2 D=some (.dT kvs)->(∀b,b≠D->H2 b=H1 b)->Q x H2
def JE{e:Expr}{t:TE}(h:PE X e t):PE X e (JD X.H₀ t):=by
 intro aa s σ H Q I q;refine aR (h aa s σ H _ I q) fun v f ⟨x,H1,I1,c,D,kvs,d,a,k⟩=>?_;rcases a with a|⟨o,a⟩
 ·exact⟨x,H1,I1,c,k H1 a fun _ _=>rfl⟩
 ·exact⟨x,_,I1.thaw d a,c,k _ al fun b hb=>zh hb⟩
end
end L2
end
section
namespace K18
open K1 Tx
open PySem L2 STb
def b9(a:Ξ)(cs:Ch):Ch:=((canon a).filter fun k=>decide (k∈ksC cs)).map fun k=>(k,dQ cs k)
def q5{cs:Ch}(a:(ksC cs).Nodup){c:List Int×Int}(hc:c∈cs):dQ cs c.1=c.2:=by
 have h1:=IA cs c.1;rw[pY a c hc] at h1;have:V.int c.2=V.int (dQ cs c.1):=h1;injection this with this
 exact this.symm
def kR{cs:Ch}{k:List Int}(h:k∈ksC cs):∃c∈cs,c.1=k:=by
 obtain⟨c,hc,e⟩:=List.mem_map.mp h;exact⟨c,hc,e⟩
structure Oc(ac:Ξ)(cs:Ch):Prop where
 hw:cG ac
 h56:(canon ac).length<=56
 nd:(ksC cs).Nodup
 inn:∀c∈cs,c.1∈canon ac
 hi:∃n:Nat,∀c∈cs,c.1.length=n
 nz:∀c∈cs,c.2≠0
 sm:∀c∈cs,Sm c.2
def Oc.len{a:Ξ}{cs:Ch}(h:Oc a cs):cs.length<=(canon a).length:=by
 have:(ksC cs).length=cs.length:=Ab _;rw[<-this];exact h.nd.length_le_of_subset fun q hq=>by obtain⟨c,hc,rfl⟩:=kR hq;exact h.inn c hc
def xp{a:Ξ}(hw:bS a=true){q:List Int}(h:q∈canon a):gT q/\q≠[]/\q.length<=5:=by
 obtain⟨_,b,_,_⟩:=wQ hw;obtain⟨t,ht,hx⟩:=List.mem_flatMap.mp (Hw.mp h);obtain⟨c,d,hp,_⟩:=pU.mp (Hx (b t ht) hx);exact⟨hp,c,d⟩
def nr{a:Ξ}{cs:Ch}(h:Oc a cs)(c:List Int×Int):c∈b9 a cs↔c∈cs:=by
 unfold b9;rw[List.mem_map];constructor
 ·rintro⟨k,hk,rfl⟩
  obtain⟨c,hc,rfl⟩:=kR (of_decide_eq_true (List.mem_filter.mp hk).2);rw[q5 h.nd hc];exact hc
 ·intro hc
  exact⟨c.1,List.mem_filter.mpr ⟨h.inn c hc,decide_eq_true (List.mem_map.mpr ⟨c,hc,rfl⟩)⟩,by rw[q5 h.nd hc]⟩
def CW(a:Ξ)(cs:Ch):ksC (b9 a cs)=(canon a).filter fun k=>decide (k∈ksC cs):=by
 unfold ksC b9;rw[AC];exact List.map_id' _
def CY(a:Ξ)(cs:Ch):(ksC (b9 a cs)).Nodup:=by rw[CW];exact(mG a).filter _
def JF{a:Ξ}{cs:Ch}(h:Oc a cs)(k:List Int):k∈ksC (b9 a cs)↔k∈ksC cs:=by
 rw[CW,List.mem_filter,decide_eq_true_eq];exact⟨fun z=>z.2,fun z=>⟨by obtain⟨c,hc,rfl⟩:=kR z;exact h.inn c hc,z⟩⟩
def JG{a:Ξ}{cs:Ch}(h:Oc a cs):(b9 a cs).length=cs.length:=by
 have e1:(ksC (b9 a cs)).length=(b9 a cs).length:=Ab _;have e2:(ksC cs).length=cs.length:=Ab _;rw[<-e1,<-e2];exact((List.perm_ext_iff_of_nodup (CY a cs) h.nd).mpr (JF h)).length_eq
def Oc.hc{a:Ξ}{cs:Ch}(h:Oc a cs):dL (canon a) cs=true:=by
 obtain⟨n,b⟩:=h.hi;exact ID h.inn b h.nz
def ra{a:Ξ}{cs:Ch}(h:Oc a cs):Oc a (b9 a cs):=
 ⟨h.hw,h.h56,CY a cs,fun c hc=>h.inn c ((nr h c).mp hc),(let ⟨n,hn⟩:=h.hi;⟨n,fun c hc=>hn c ((nr h c).mp hc)⟩),fun c hc=>h.nz c ((nr h c).mp hc),fun c hc=>h.sm c ((nr h c).mp hc)⟩
def Oc.tm{e:Ξ}{cs:Ch}(h:Oc e cs):∀c∈cs,Tm c:=fun c hc=>by
 obtain⟨a,b,d⟩:=xp h.hw.1 (h.inn c hc);exact⟨a,b,d,h.sm c hc⟩
section
variable{P:Program}{w:World}{K:Ae}{mg:Str->Option Value}{base:Heap}
def JH{H:Hp}{as:List Addr}{a:Ξ}(p:Tps H as a):∀x∈a.zip as,Tp H x.2 x.1:=by
 induction p with
 |nil=>intro x hx;cases hx
 |cons h t ih=>
  intro x hx;rcases List.mem_cons.mp hx with rfl|hx
  ·exact h
  ·exact ih x hx
def JI{H2:Hp}{L D d:Addr}{as:List Addr}{kn:Ξ}{g:List Int->Int}{Q:VK}{te:TE}(u:∀(a:Addr)(ps:List Int)(H:Hp)(R:VK),Same H2 H->Tp H a ps->ps∈kn->(∀H',Same H H'->R (.str (term (ps,g ps))) H')->te [some (.ref a),some (.ref d)] H R)(w:SqL K H2 L (as.map V.ref))(ht:Tps H2 as kn)(y:kn.length<=1000)(h:H2 D=none)(k:∀b,Same H2 b->b D=some (.lst (((kn.map fun q=>(q,g q)).map term).map V.str))->Q (.ref D) b):cF (et K L) (dc 0) bZ te [none,some (.ref d)] H2 D Q:=by
 have r:=ht.length;refine zV (xs:=as.map V.ref) (fun j σ ys b=>∃v:Option V,σ=[v,some (.ref d)]/\Same H2 b/\b D=some (.lst ys)/\ys=(((kn.take j).map fun q=>(q,g q)).map term).map V.str) ?_ ?_ ?_ ?_
 ·exact⟨none,rfl,Same.new h,al,rfl⟩
 ·rintro j σ ys b ⟨v,rfl,c,e,rfl⟩
  exact c.seq w
 ·rintro j σ ys b x hx i hy ⟨v,rfl,c,e,rfl⟩
  obtain⟨o,l,rfl⟩:=eR hx;obtain⟨p,ep,hp⟩:=ht.get l;have s:(as.map V.ref).length<=sizeLine:=by rw[Ab];exact zb ω
  refine cx ?_;refine u o p b _ c (c.tp hp) (Ay ep) fun z f=>bR s i hy (f _ _ e) ⟨_,rfl,(c.trans f).then h,al,?_⟩;rw[AX ep,At,At,At]
  rfl
 ·rintro σ ys b ⟨v,rfl,c,e,rfl⟩
  rw[Ab,r,AD (Ag _)] at e;exact k b c e
def CZ:Sp:=fun vs H Q _=>∃l d as a cs,vs=[.ref l,.ref d]/\H l=some (.lst (as.map V.ref))/\Tps H as a/\Rd H d (.dT (bx cs))/\Oc a cs/\∀H',zy d H H'->Rd H' d (.dT (bx cs))->Q (.str (be (b9 a cs))) H'
def JJ:zo ["web","chain"] ["web","chain"] (ze qW):=⟨rfl,rfl,rfl,δ,rfl,δ,δ⟩
def JK{f u v fk x:Addr}{fd y G cM I:FuncData}(F:Fun K "shown_chain" "shown_chain" qW f fd)(B:Bt mg)(Fm:Fun K "must_be_chain" "must_be_chain" p0 u y)(bm:Binds K y ["web","chain"] [])(mm:mg "must_be_chain"=some (.ref u))(Gm:FnOk P w K mg base aE 10 u y ["web","chain"] (Cv K))(Fo:Fun K "in_order" "in_order" ko v G)(bo:Binds K G ["some"] [])(mo:mg "in_order"=some (.ref v))(Fk:Fun K "order_key" "order_key" eI fk cM)(bk:Binds K cM ["piece"] [])(mk:mg "order_key"=some (.ref fk))(Ft:Fun K "shown_term" "shown_term" qX x I)(bt:Binds K I ["piece","weight"] [])(mt:mg "shown_term"=some (.ref x))(Gt:FnOk P w K mg base aE 2 x I ["piece","weight"] CV):FnOk P w K mg base aE 11 f fd ["web","chain"] CZ:=by
 have Go:FnOk P w K mg base aE 4 v G ["some"] (wF K):=BL Fo B Fk bk mk;refine F.ok JJ (fun vs H Q E h=>?_) (fun cdv A outer s H vs Q E hr h=>?_)
 ·obtain⟨l,d,as,e,cs,rfl,_⟩:=h;rfl
 ·obtain⟨l,d,as,e,cs,rfl,hl,ht,hd,b,k⟩:=h
  have hu:=hY hr;have uN:Room 2 _:=hr.mono ξ;have pM:Room 4 _:=hr.mono ξ;refine⟨_,za (zR (zu Gm hr rfl mm Fm.kp bm .nil aw (af (pv 0) (af (pv 1) ao))))
   (zd (zm (zP AK PySem.F.slot_str_join PySem.F.type_str_join ju pe_str (af (zw ["web","chain"] ["piece","chain"] [none,some 1]
    (zG (zu Go pM rfl mo Fo.kp bo .nil aw (af (zt (BS rfl) rfl B.list kq (af (pv 1) ao)) ao))) (fun J C s₀ H₀ ex=>zr (i:=0) (cW ["piece","chain"]) rfl (Or.inl rfl)) (fun J C s₀ H₀ ex=>zL)
    (fun J C s₀ H₀ ex=>zu Gt uN rfl mt Ft.kp bt .nil aw (af (pv 0) (af (yw hu (pv 1) (pv 0) (fun _ _=>rfl)) ao))) (hfr:=gC (ze qW) δ)) ao)))),?_⟩
  have t6:=b.len;have r:=b.h56;refine⟨_,rfl,_,rfl,l,d,as,e,cs,rfl,SqL.of hl,ht,b.hw,ω,hd,ω,ω,b.hc,fun H1 cX M=>?_⟩;refine⟨rfl,_,rfl,d,bx cs,rfl,M,fun bs pb L hL=>?_⟩;have W:=Same.new (o:=.lst (bs.map V.ref)) hL;have tb:=W.tps (Co pb);refine⟨L,bs,ksC cs,rfl,SqL.of al,tb,by rw[jt];omega,fun D H2 j N cz O S mO=>⟨D,rfl,⟨_,SqL.of O⟩,fun E' hE=>?_⟩⟩;have X:=W.trans N;have eV:H2 D=some (.lst ((j.map (·.2)).map V.ref)):=by rw[O,AC];rfl
  have hz:=JH tb;have Y:Tps H2 (j.map (·.2)) (j.map (·.1)):=wT fun q hq=>N.tp (hz q (S.subset hq));have ff:(j.map (·.1)).Perm (ksC cs):=by
   have:=S.map (·.1);rw[List.map_fst_zip (by rw[tb.length];exact Ag _)] at this;exact this
  have hk:j.map (·.1)=(canon e).filter fun q=>decide (q∈ksC cs):=by
   refine B_ (ff.trans ((List.perm_ext_iff_of_nodup b.nd ((mG e).filter _)).mpr fun q=>?_)) ?_ ((B9 e).sublist List.filter_sublist)
   ·rw[List.mem_filter,decide_eq_true_eq]
    exact⟨fun z=>⟨by obtain⟨c,hc,rfl⟩:=kR z;exact b.inn c hc,z⟩,fun z=>z.2⟩
   ·rw[List.pairwise_map];exact mO.imp fun h=>kD.mpr h
  rw[hk] at Y;have Z:=M.same X;have qz:((canon e).filter fun q=>decide (q∈ksC cs)).length<=56:=AA (List.length_filter_le _ _) r;have so:=ra b;refine zH (JI (d:=d) (g:=dQ cs) (fun a p H' R sm T hm hR=>?_) (SqL.of eV) Y ω hE fun H3 U si=>⟨_,E',_,rfl,rfl,SqL.of si,(w5 so.tm (by rw[JG b];omega)).1,?_⟩)
  ·obtain⟨c,hc,rfl⟩:=kR (of_decide_eq_true (List.mem_filter.mp hm).2)
   rw[q5 b.nd hc] at hR;exact⟨_,rfl,_,rfl,_,rfl,d,_,rfl,.inr ⟨bx cs,c.1.map Sum.inl,a,Z.same sm,rfl,p8 T,(pY b.nd c hc).symm⟩,a,c.1,c.2,rfl,T,b.tm c hc,hR⟩
  ·exact k H3 (cX.trans (zy.of (X.trans U))) (Z.same U)
def back{x:Str}:(⟨x.cps.toList.toArray⟩:Str)=x:=by cases x;rfl
end
end K18
end
section
namespace Tx
open PySem PySem.Builtin.Str PyProof.Rows PySem.NumText
def xq{c:Nat}:∀{ws:List Str},ws≠[]->(∀t∈ws,c∉t.cps.toList)->(Str.join ⟨#[c]⟩ ws).cps.toList.count c+1=ws.length
 |[],h,_=>absurd rfl h
 |[w],_,h=>by
  rw[join_one,List.count_eq_zero_of_not_mem (h w Am)]
  rfl
 |u::v::r,_,h=>by
  rw[db,List.count_append,List.count_cons_self,List.count_eq_zero_of_not_mem (h u Am)];have:=xq (c:=c) (ws:=v::r) (List.cons_ne_nil _ _) (fun t m=>h t (Av _ m));rw[Ap] at this ⊢;rw[Ap];omega
def xr(x:Str)(c:Nat):(Al x ⟨#[c]⟩).length=x.cps.toList.count c+1:=by
 have:=xq (c:=c) (kF x ⟨#[c]⟩) (StrLaws.split_free _ _);rw[StrLaws.join_split] at this;omega
def mem_join{c d:Nat}(a:c≠d):∀{ws:List Str},ws≠[]->c∈(Str.join ⟨#[d]⟩ ws).cps.toList->∃t∈ws,c∈t.cps.toList
 |[],h,_=>absurd rfl h
 |[w],_,h=>by rw[join_one] at h;exact⟨w,Am,h⟩
 |u::v::r,_,h=>by
  rw[db] at h;rcases List.mem_append.mp h with h|h
  ·exact⟨u,Am,h⟩
  ·rcases List.mem_cons.mp h with h|h
   ·exact absurd h a
   ·obtain⟨t,m,q⟩:=mem_join a (List.cons_ne_nil _ _) h
    exact⟨t,Av _ m,q⟩
def JL{x:Str}{c d:Nat}(h:c∈x.cps.toList)(a:c≠d):∃t∈Al x ⟨#[d]⟩,c∈t.cps.toList:=
 mem_join a (kF x _) (by rw[StrLaws.join_split];exact h)
def JM{x:Str}{c:Nat}(h:c∉x.cps.toList):Al x ⟨#[c]⟩=[x]:=by
 have:=p5 (c:=c) (ws:=[x]) (List.cons_ne_nil _ _) (fun t m=>by rw[List.mem_singleton.mp m];exact h);rw[show Txt.join ⟨#[c]⟩ [x]=Str.join ⟨#[c]⟩ [x] from StrLaws.glued_eq_join _ _,join_one] at this;exact this
def cut_two{z:Str}{c:Nat}{A B:List Nat}(e:z.cps.toList=A++c::B):(c∉A/\c∉B/\Al z ⟨#[c]⟩=[⟨A.toArray⟩,⟨B.toArray⟩])\/((c∈A\/c∈B)/\3<=(Al z ⟨#[c]⟩).length):=by
 by_cases a:c∈A
 ·right
  refine⟨.inl a,?_⟩;rw[xr,e,List.count_append,List.count_cons_self];have:=List.count_pos_iff.mpr a;omega
 by_cases b:c∈B
 ·right
  refine⟨.inr b,?_⟩;rw[xr,e,List.count_append,List.count_cons_self];have:=List.count_pos_iff.mpr b;omega
 left
 refine⟨a,b,?_⟩;have:=p5 (c:=c) (ws:=[⟨A.toArray⟩,⟨B.toArray⟩]) (List.cons_ne_nil _ _) (fun t m=>by
  rcases List.mem_cons.mp m with m|m
  ·rw[m];simpa using a
  ·rw[List.mem_singleton.mp m];simpa using b)
 rw[show Txt.join ⟨#[c]⟩ [(⟨A.toArray⟩:Str),⟨B.toArray⟩]=z from ?_] at this
 ·exact this
 ·rw[show Txt.join ⟨#[c]⟩ [(⟨A.toArray⟩:Str),⟨B.toArray⟩]=Str.join ⟨#[c]⟩ [(⟨A.toArray⟩:Str),⟨B.toArray⟩] from StrLaws.glued_eq_join _ _]
  apply Str.ext';apply Array.toList_inj.mp;rw[db,join_one,e]
def C0(ds:List Nat)(d:Nat):digitsVal (ds++[d])=digitsVal ds*10+(d-48):=by
 unfold digitsVal;rw[List.foldl_append]
 rfl
def snocInd{P:List Nat->Prop}(b:P [])(h1:∀l d,P l->P (l++[d]))(l:List Nat):P l:=by
 have:∀r:List Nat,P r.reverse:=fun r=>by
  induction r with
  |nil=>exact b
  |cons a r ih=>rw[List.reverse_cons];exact h1 _ _ ih
 have:=this l.reverse
 rwa [List.reverse_reverse] at this
def C1(ds:List Nat):(∀c∈ds,48<=c/\c<=57)->digitsVal ds<10 ^ ds.length:=by
 refine snocInd (P:=fun ds=>(∀c∈ds,48<=c/\c<=57)->digitsVal ds<10 ^ ds.length) (fun _=>ξ) (fun l d a h=>?_) ds;have h1:=a fun c hc=>h c (List.mem_append_left _ hc);have h2:=h d (by simp);rw[C0,Aq,List.length_singleton,Nat.pow_succ];omega
def JN(ds:List Nat):ds≠[]->(∀c∈ds,48<=c/\c<=57)->(ds.length=1\/ds[0]?≠some 48)->(A6 10 (digitsVal ds)).map Char.toNat=ds/\(0<digitsVal ds\/ds=[48]):=by
 refine snocInd (P:=fun ds=>ds≠[]->(∀c∈ds,48<=c/\c<=57)->(ds.length=1\/ds[0]?≠some 48)->(A6 10 (digitsVal ds)).map Char.toNat=ds/\(0<digitsVal ds\/ds=[48])) (fun h=>absurd rfl h) (fun l d i _ h j=>?_) ds;have hd:=h d (by simp);have g:∀k:Nat,k<10->(Nat.digitChar k).toNat=k+48:=ξ
 rw[C0];cases hl:l with
 |nil=>
  show(A6 10 (0*10+(d-48))).map Char.toNat=[d]/\(0<0*10+(d-48)\/[d]=[48]);rw[Nat.zero_mul,Nat.zero_add,Nat.toDigits_of_lt_base ω,List.map_singleton,g _ ω];refine⟨by rw[show d-48+48=d from ω],?_⟩
  by_cases e:d=48
  ·exact .inr (by rw[e])
  ·exact .inl ω
 |cons a r=>
  rw[<-hl];have f:l≠[]:=by rw[hl];exact List.cons_ne_nil _ _
  have b:l[0]?≠some 48:=by
   rcases j with z|z
   ·rw[hl] at z;simp at z
   ·rw[hl] at z ⊢;simpa using z
  obtain⟨e1,e2⟩:=i f (fun c hc=>h c (List.mem_append_left _ hc)) (.inr b);have hp:0<digitsVal l:=by
   rcases e2 with z|z
   ·exact z
   ·rw[z] at b;exact absurd rfl b
  refine⟨?_,.inl ω⟩;have t:A6 10 (digitsVal l)++A6 10 (d-48)=A6 10 (10*digitsVal l+(d-48)):=Nat.toDigits_append_toDigits ξ hp ω;rw[show digitsVal l*10+(d-48)=10*digitsVal l+(d-48) from ω,<-t,At,e1,Nat.toDigits_of_lt_base ω,List.map_singleton,g _ ω,show d-48+48=d from ω]
def C2{c:Nat}:∀{ws:List Str}{t:Str},t∈ws->t.length<=(Str.join ⟨#[c]⟩ ws).length
 |[],_,h=>nomatch h
 |[w],t,h=>by rw[List.mem_singleton.mp h,join_one];exact Ag _
 |u::v::r,t,h=>by
  have e:(Str.join ⟨#[c]⟩ (u::v::r)).length=u.length+(1+(Str.join ⟨#[c]⟩ (v::r)).length):=by
   have:=congrArg List.length (db (c:=c) u v r);rw[Aq,Ap,Au,Au,Au] at this;show(Str.join ⟨#[c]⟩ (u::v::r)).cps.size=u.cps.size+(1+(Str.join ⟨#[c]⟩ (v::r)).cps.size);omega
  rcases List.mem_cons.mp h with h|h
  ·rw[h];omega
  ·have:=C2 (c:=c) h
   omega
def split_len{x t:Str}{c:Nat}(h:t∈Al x ⟨#[c]⟩):t.length<=x.length:=by
 have:=C2 (c:=c) h;rw[StrLaws.join_split] at this;exact this
abbrev bb(ws:List Str):Nat:=(ws.map (·.length)).sum
def JO{sep:Str}{ws:List Str}(hs:sep.length=1)(h:bb ws+ws.length<=100000):JoinOk sep ws=true/\(Txt.join sep ws).length<=bb ws+ws.length:=by
 constructor
 ·unfold JoinOk tooLong
  rw[StrLaws.joinTotal,hs,Nat.mul_one];have:(ws.map (·.length)).sum+ws.length<=sizeLine:=CC h;simp only[Bool.not_eq_true',decide_eq_false_iff_not];omega
 ·rw[show Txt.join sep ws=Str.join sep ws from StrLaws.glued_eq_join _ _]
  have:=StrLaws.join_length_le sep ws;rw[hs] at this;show _<=(ws.map (·.length)).sum+_;omega
def C3{c:Nat}:∀{ws:List Str},ws≠[]->bb ws+ws.length=(Str.join ⟨#[c]⟩ ws).length+1
 |[],h=>absurd rfl h
 |[w],_=>by rw[join_one];simp[bb]
 |u::v::r,_=>by
  have e:(Str.join ⟨#[c]⟩ (u::v::r)).length=u.length+(1+(Str.join ⟨#[c]⟩ (v::r)).length):=by
   have:=congrArg List.length (db (c:=c) u v r);rw[Aq,Ap,Au,Au,Au] at this;show(Str.join ⟨#[c]⟩ (u::v::r)).cps.size=u.cps.size+(1+(Str.join ⟨#[c]⟩ (v::r)).cps.size);omega
  have a:=C3 (c:=c) (ws:=v::r) (List.cons_ne_nil _ _);rw[e];unfold bb at a ⊢;rw[AE,List.sum_cons,Ap];omega
def rb(x:Str)(c:Nat):bb (Al x ⟨#[c]⟩)+(Al x ⟨#[c]⟩).length=x.length+1:=by
 rw[C3 (c:=c) (kF x _),StrLaws.join_split]
end Tx
end
section
namespace K18
open K1 Tx
open PySem L2 STb
def ay(z:Str):Option (List Int×Int):=match Al z "*" with
 |[a,b]=>if(zv a&&zO b)=true then some (ap b,zB a) else none
 |_=>none
def cU:List Str->Ch->Option Ch
 |[],acc=>some acc
 |z::r,acc=>match ay z with
  |some (p,n)=>cU r (putC acc p n)
  |none=>none
def xt{m:Int}{x:Str}(h:okN m x=true):∀c∈x.cps.toList,48<=c/\c<=57:=fun c hc=>by
 unfold okN at h;simp only[AB] at h;exact of_decide_eq_true (List.all_eq_true.mp h.2.2.1 c hc)
def xu{m:Int}{x:Str}(h:42∈x.cps.toList):okN m x=false:=by
 cases e:okN m x with
 |false=>rfl
 |true=>have:=xt e 42 h;omega
def JP{x:Str}(h:42∈x.cps.toList):zv x=false:=by
 unfold zv
 by_cases b:ck x=true
 ·rw[if_pos b]
  refine xu ?_;rw[(nq b).1];have h':=of_decide_eq_true b;cases e:x.cps.toList with
  |nil=>rw[e] at h';cases h'
  |cons a r=>
   rw[e] at h' h;have c:a=45:=Ai h';rcases List.mem_cons.mp h with z|z
   ·omega
   ·exact z
 ·rw[if_neg b];exact xu h
def JQ{x:Str}(h:42∈x.cps.toList):zO x=false:=by
 unfold zO;have a:("-":Str)=⟨#[45]⟩:=dk;rw[a];obtain⟨t,ht,hs⟩:=JL (d:=45) h ξ;cases e:(Al x ⟨#[45]⟩).all (okN 2) with
 |false=>rfl
 |true=>have:=List.all_eq_true.mp e t ht;rw[xu hs] at this;cases this
def jy:("*":Str)=⟨#[42]⟩:=δ
def JR{z:Str}{A B:List Nat}(e:z.cps.toList=A++42::B):ay z=if(zv ⟨A.toArray⟩&&zO ⟨B.toArray⟩)=true then some (ap ⟨B.toArray⟩,zB ⟨A.toArray⟩) else none:=by
 unfold ay;rw[jy];rcases cut_two e with ⟨_,_,s⟩|⟨hm,b⟩
 ·rw[s]
 ·have a:(zv ⟨A.toArray⟩&&zO ⟨B.toArray⟩)=false:=by
   rcases hm with z|z
   ·rw[JP (by simpa using z)];rfl
   ·rw[JQ (x:=⟨B.toArray⟩) (by simpa using z),AW]
  rw[a,if_neg ξ]
  match Al z ⟨#[42]⟩,b with
  |_::_::_::_,_=>rfl
def JS{z:Str}(h:42∉z.cps.toList):ay z=none:=by
 unfold ay;rw[jy,JM h]
def C4{x:Str}(h:okN 30 x=true):Sm (valN x):=by
 have a:=C1 x.cps.toList (xt h);unfold okN at h;simp only[AB,decide_eq_true_eq] at h;have b:x.cps.toList.length=x.length:=Au;rw[b] at a;have:x.length<=30:=by have:=h.2.1;omega
 have h2:10 ^ x.length<=10 ^ 30:=Nat.pow_le_pow_right ξ this;show(valN x).natAbs<10 ^ 30;unfold valN;rw[Int.natAbs_natCast];omega
def JT{x:Str}(h:zv x=true):Sm (zB x):=by
 unfold zv at h;unfold zB
 by_cases a:ck x=true
 ·rw[if_pos a] at h ⊢
  have:(valN (tl x)).natAbs<10 ^ 30:=C4 h;show(-valN (tl x)).natAbs<10 ^ 30;rw[Int.natAbs_neg];exact this
 ·rw[if_neg a] at h ⊢
  exact C4 h
def xx{z:Str}{c:List Int×Int}(h:ay z=some c):Sm c.2:=by
 unfold ay at h;split at h
 ·split at h
  ·rename_i hb
   rw[AB] at hb;have:=Ai h;rw[<-this];exact JT hb.1
  ·cases h
 ·cases h
def C5{cs:Ch}{q:List Int}{v:Int}:ksC (putC cs q v)=if q∈ksC cs then ksC cs else ksC cs++[q]:=by
 unfold putC
 by_cases h:q∈ksC cs
 ·rw[if_pos h,if_pos h]
  unfold ksC;rw[AC];refine AZ fun c _=>?_;show(if c.1=q then(c.1,v) else c).1=c.1;split<;>rfl
 ·rw[if_neg h,if_neg h]
  unfold ksC;rw[At];rfl
def C6{cs:Ch}{q:List Int}{v:Int}(h:(ksC cs).Nodup):(ksC (putC cs q v)).Nodup:=by
 rw[C5];split
 ·exact h
 ·rename_i hq
  rw[List.nodup_append];exact⟨h,by simp,fun a c b hb e=>by rw[List.mem_singleton.mp hb] at e;exact hq (e▸c)⟩
def C7{cs:Ch}{q:List Int}{v:Int}:(putC cs q v).length<=cs.length+1:=by
 have:=congrArg List.length (C5 (cs:=cs) (q:=q) (v:=v));rw[jt] at this;rw[this];split
 ·rw[jt];omega
 ·rw[Aq,jt];simp
def C8{cs:Ch}{q:List Int}{v:Int}(h:∀c∈cs,Sm c.2)(a:Sm v):∀c∈putC cs q v,Sm c.2:=by
 unfold putC;split
 ·intro c hc
  obtain⟨d,hd,rfl⟩:=List.mem_map.mp hc;split
  ·exact a
  ·exact h d hd
 ·intro c hc
  rcases List.mem_append.mp hc with z|z
  ·exact h c z
  ·rw[List.mem_singleton.mp z];exact a
def fM(a:Ξ)(text:Str):Option Ch:=if text="" then some [] else match cU (Al text " ") [] with
 |none=>none
 |some cs=>if(dL (canon a) cs&&decide (be (b9 a cs)=text))=true then some cs else none
def C9:∀{ws:List Str}{z:Str}{acc cs:Ch},cU ws acc=some cs->cU (ws++[z]) acc=(ay z).map fun c=>putC cs c.1 c.2
 |[],z,acc,cs,h=>by
  have:acc=cs:=Ai h;subst this;show(match ay z with|some (p,n)=>cU [] (putC acc p n)|none=>none)=_;cases ay z<;>rfl
 |y::r,z,acc,cs,h=>by
  show(match ay y with|some (p,n)=>cU (r++[z]) (putC acc p n)|none=>none)=_;have h':(match ay y with|some (p,n)=>cU r (putC acc p n)|none=>none)=some cs:=h;cases e:ay y with
  |none=>rw[e] at h';cases h'
  |some c=>rw[e] at h';exact C9 h'
def C_:∀{ws rest:List Str}{z:Str}{acc:Ch},ay z=none->cU (ws++z::rest) acc=none
 |[],rest,z,acc,h=>by
  show(match ay z with|some (p,n)=>cU rest (putC acc p n)|none=>none)=none;rw[h]
 |y::r,rest,z,acc,h=>by
  show(match ay y with|some (p,n)=>cU (r++z::rest) (putC acc p n)|none=>none)=none;cases ay y with
  |none=>rfl
  |some c=>exact C_ h
section
variable{P:Program}{w:World}{K:Ae}{mg:Str->Option Value}{base:Heap}{f fN:Addr}{fd:FuncData}
def Da(fN:Addr):Sp:=fun vs H Q E=>∃l as a text,vs=[.ref l,.str text]/\H l=some (.lst (as.map V.ref))/\Tps H as a/\cG a/\(canon a).length<=56/\text.length<=50000/\(Al text " ").length<=(canon a).length+3/\
 ((∃cs,fM a text=some cs/\∀D H',Same H H'->H D=none->H' D=some (.dT (bx cs))->Q (.ref D) H')\/(fM a text=none/\∀H',Same H H'->∀x,H' x=none->E (.ref x) (some fN) H'))
abbrev JU:List Str:=["web","text","chain","word","halves"]
def rc:zo JU ["web","text"] (ze xo):=⟨rfl,rfl,rfl,δ,rfl,δ,δ⟩
def JV(F:Fun K "read_chain" "read_chain" xo f fd)(B:Bt mg)(mN:mg "NoNote"=some (.ref fN))(qN:QX K fN)(Cm:Cl P w K mg base aE "must_be_web" ["web"] 7 (wU K))(Ci:Cl P w K mg base aE "is_chain" ["web","chain"] 9 (wX K))(Cs:Cl P w K mg base aE "shown_chain" ["web","chain"] 11 CZ)(Cp:Cl P w K mg base (cO P w) "read_piece" ["word"] 3 (CP fN))(Cw:Cl P w K mg base (cO P w) "read_weight" ["word"] 2 (CQ fN)):FnOk P w K mg base (cO P w) 12 f fd ["web","text"] (Da fN):=by
 refine F.ok1 rc (fun vs H Q E h=>?_) (fun cdv A outer s H vs Q E hr h=>?_)
 ·obtain⟨l,as,d,text,rfl,_⟩:=h;rfl
 ·obtain⟨l,as,d,text,rfl,hl,ht,hw,h56,hz,hws,h⟩:=h
  have hu:=hY hr;refine⟨_,za (zR (zQ Cm hr rfl aw (af (pv 0) ao)))
   (za (zI (zl d_ (pv 1) pe_str (au _)) (zd (zm jW)) zp)
   (za (zj (i:=2) rc.nd rfl (Or.inl rfl) jW)
   (za (eu PassesOwn.leaving rfl (zG (zP AK PySem.F.slot_str_split PySem.F.type_str_split jq (pv 1) (af pe_str ao))) (zr (i:=3) rc.nd rfl (Or.inl rfl))
    (za (zj (i:=4) rc.nd rfl (Or.inl rfl) (zP AK PySem.F.slot_str_partition PySem.F.type_str_partition Jw (pv 3) (af pe_str ao)))
    (zd (jU hu (pv 2) (zQ Cp hr rfl (dR (E:=E)) (af (cA lB (pv 4) zf (fun _ _=>rfl)) ao)) (zQ Cw hr rfl (dR (E:=E)) (af (cA lB (pv 4) zf (fun _ _=>rfl)) ao)) rfl))))
   (za (zI (fU (iE (zQ Ci hr rfl aw (af (pv 0) (af (pv 2) ao))))) (zd (ng (C:=fN) (EX:=E) rfl rfl mN qN (fun aa σ H' s' x I hx h0 hs hE=>kK I hx h0 hs (fun a e=>nomatch e) hE))) zp)
   (za (zI (zl ja (zQ Cs hr rfl aw (af (pv 0) (af (pv 2) ao))) (pv 1) (au _)) (zd (ng (C:=fN) (EX:=E) rfl rfl mN qN (fun aa σ H' s' x I hx h0 hs hE=>kK I hx h0 hs (fun a e=>nomatch e) hE))) zp)
   (zd (zm (JE (pv 2))))))))),?_⟩
  have U:∀{H1:Hp},fM d text=none->Same H H1->∀y,H1 y=none->E (.ref y) (some fN) H1:=fun hb s1=>by
   rcases h with ⟨cs,b,_⟩|⟨_,k⟩
   ·rw[hb] at b;cases b
   ·exact k _ s1
  have yes:∀{cs:Ch},fM d text=some cs->∀D H',Same H H'->H D=none->H' D=some (.dT (bx cs))->Q (.ref D) H':=fun hb=>by
   rcases h with ⟨cs,b,k⟩|⟨b,_⟩
   ·rw[hb] at b;obtain rfl:=Ai b;exact k
   ·rw[hb] at b;cases b
  refine⟨_,rfl,l,as,d,rfl,SqL.of hl,ht,hw,fun H1 bO=>⟨_,rfl,rfl,_,rfl,?_⟩⟩
  by_cases he:text=""
  ·rw[decide_eq_true (by rw[he])]
   exact aK fun D Z=>yes (cs:=[]) (by unfold fM;rw[if_pos he]) D _ (bO.trans (Same.new Z)) (bO.free Z) al
  ·rw[decide_eq_false fun z=>he (by injection z)]
   refine aW fun D Z=>?_;have W:H D=none:=bO.free Z;have sD:=bO.trans (Same.new (o:=.dT []) Z);refine⟨_,rfl,rfl,_,_,rfl,rfl,ξ,zb ω,zb ω,fun S hS=>⟨S,rfl,⟨_,SqL.of al⟩,?_⟩⟩;have sS:=sD.trans (Same.new (o:=.lst ((Al text " ").map V.str)) hS);have nL:D≠S:=zg al hS;have bl:(" ":Str)=⟨#[32]⟩:=blank;generalize fI:Al text " "=ws at *;have hlen:∀z∈ws,z.length<=50000:=fun z cP=>by
    rw[<-fI,bl] at cP;exact AA (split_len cP) hz
   have q:fM d text=match cU ws [] with|none=>none|some cs=>if(dL (canon d) cs&&decide (be (b9 d cs)=text))=true then some cs else none:=by unfold fM;rw[if_neg he,fI]
   refine gQ (K:=K) (a:=S) (xs:=ws.map V.str) (fun i σ O=>∃(v3 v4:Option V)(cs:Ch),σ=[some (.ref l),some (.str text),some (.ref D),v3,v4]/\Same H O/\O S=some (.lst (ws.map V.str))/\O D=some (.dT (bx cs))/\cU (ws.take i) []=some cs/\(ksC cs).Nodup/\cs.length<=i/\∀c∈cs,Sm c.2)
    ⟨none,none,[],rfl,sS,al,by rw[zh nL,al];rfl,rfl,List.nodup_nil,Ag _,fun c hc=>nomatch hc⟩ (fun i σ O _ ⟨_,_,_,_,_,h,_⟩=>SqL.of h) ?_ ?_
   ·rintro i x σ O hx ⟨v3,v4,cs,rfl,p,jI,ai,J,cZ,hcl,L⟩
    rw[Ao] at hx;obtain⟨z,M⟩:∃z,ws[i]?=some z:=by
     cases M:ws[i]? with
     |none=>rw[M] at hx;cases hx
     |some z=>exact⟨z,rfl⟩
    rw[M] at hx;obtain rfl:=Ai hx;have eG:=Ay M;have ku:=hlen z eG;have hi:i<ws.length:=(List.getElem?_eq_some_iff.mp M).1;have stop:ay z=none->fM d text=none:=fun hp=>by
     have hd:ws.drop i=z::ws.drop (i+1):=by rw[List.drop_eq_getElem_cons hi,(List.getElem?_eq_some_iff.mp M).2]
     have e:cU (ws.take i++z::ws.drop (i+1)) []=none:=C_ hp;rw[<-hd,List.take_append_drop] at e;rw[q,e]
    refine⟨_,rfl,rfl,z,42,rfl,by rw[jy],zb ω,fun A' B' e T hT=>?_,fun hno T hT=>?_⟩
    ·have X:=Same.new (o:=.tup [.str ⟨A'.toArray⟩,.str ⟨#[42]⟩,.str ⟨B'.toArray⟩]) hT
     have N:=JR e;have vM:A'.length+B'.length+1=z.length:=by
      have:=congrArg List.length e;rw[Au,Aq,Ap] at this;show _=z.cps.size;omega
     refine⟨_,rfl,T,_,_,_,rfl,rfl,SqT.of al,zC (j:=0) rfl,⟨A'.toArray⟩,rfl,(by show A'.toArray.size<=100000;rw[Aj];omega),?_⟩;cases c8:zv ⟨A'.toArray⟩ with
     |false=>
      rw[c8,A9,if_neg ξ] at N;exact .inr ⟨rfl,fun H4 g=>U (stop N) (p.trans (X.trans g))⟩
     |true=>
      refine .inl ⟨rfl,fun H4 g=>?_⟩;have vT:(⟨B'.toArray⟩:Str).length<=50000:=by show B'.toArray.size<=50000;rw[Aj];omega
      have ed:("-":Str)=⟨#[45]⟩:=dk;refine⟨_,rfl,_,rfl,T,_,_,_,rfl,rfl,SqT.of (g _ _ al),zC (j:=2) rfl,⟨B'.toArray⟩,rfl,ω,(by have:=Iq ⟨B'.toArray⟩ "-";omega),(fun y hy=>by rw[ed] at hy;exact AA (split_len hy) ω),?_⟩;cases hwo:zO ⟨B'.toArray⟩ with
      |false=>
       rw[c8,hwo,AW,if_neg ξ] at N;exact .inr ⟨rfl,fun H5 cL=>U (stop N) (p.trans (X.trans (g.trans cL)))⟩
      |true=>
       refine .inl ⟨rfl,fun a H5 cL ha=>?_⟩;rw[c8,hwo,Bool.and_self,if_pos rfl] at N;have Y:=X.trans (g.trans cL);have dv:=Y _ _ ai;refine⟨D,_,rfl,DPut.t (k:=(ap ⟨B'.toArray⟩).map Sum.inl) dv (p8 ha) (by rw[mM];exact zK ω),⟨_,_,putC cs (ap ⟨B'.toArray⟩) (zB ⟨A'.toArray⟩),rfl,(p.trans Y).then W,?_,?_,?_,C6 cZ,?_,?_⟩⟩
       ·rw[zh (Ne.symm nL)];exact Y _ _ jI
       ·rw[al,dj]
       ·rw[AX M,C9 J,N];rfl
       ·exact AA C7 ω
       ·exact C8 L (xx N)
    ·have X:=Same.new (o:=.tup [.str z,.str ⟨#[]⟩,.str ⟨#[]⟩]) hT
     have hp:=JS hno;refine⟨_,rfl,T,_,_,_,rfl,rfl,SqT.of al,zC (j:=0) rfl,z,rfl,ω,?_⟩;cases c8:zv z with
     |false=>exact .inr ⟨rfl,fun H4 g=>U (stop hp) (p.trans (X.trans g))⟩
     |true=>
      refine .inl ⟨rfl,fun H4 g=>?_⟩;have e0:Al (⟨#[]⟩:Str) "-"=[⟨#[]⟩]:=δ
      refine⟨_,rfl,_,rfl,T,_,_,_,rfl,rfl,SqT.of (g _ _ al),zC (j:=2) rfl,⟨#[]⟩,rfl,ξ,(by rw[e0];decide),(fun y hy=>by rw[e0] at hy;rw[List.mem_singleton.mp hy];decide),.inr ⟨δ,fun H5 cL=>U (stop hp) (p.trans (X.trans (g.trans cL)))⟩⟩
   ·rintro σ O ⟨v3,v4,cs,rfl,p,jI,ai,J,cZ,hcl,L⟩
    rw[Ab] at hcl J;rw[take_all] at J;refine⟨_,rfl,_,rfl,l,D,as,d,cs,rfl,SqL.of (p _ _ hl),p.tps ht,hw,ω,.inl ai,ω,ω,fun H4 bD qA=>⟨_,rfl,?_⟩⟩;have s4:Same H H4:=fun b u G=>bD _ _ (zg G W) (p _ _ G);cases bu:dL (canon d) cs with
    |false=>exact aK (U (by rw[q,J];simp only[bu];rfl) s4)
    |true=>
     have oc:Oc d cs:=by
      have h':=bu;unfold dL at h';rw[AB,AB] at h';obtain⟨a1,a2,a3⟩:=h';have kG:=of_decide_eq_true a1;refine⟨hw,h56,cZ,fun c hc=>kG c.1 (List.mem_map.mpr ⟨c,hc,rfl⟩),?_,fun c hc z=>?_,L⟩
      ·have one:=(wV (ci (ksC cs))).mp (by have:=of_decide_eq_true a2;omega)
       cases hcs:cs with
       |nil=>exact⟨0,fun c hc=>nomatch hc⟩
       |cons d0 r=>
        refine⟨d0.1.length,fun c hc=>?_⟩;rw[<-hcs] at hc;have e1:(c.1.length:Int)∈ci (ksC cs):=List.mem_map.mpr ⟨c.1,List.mem_map.mpr ⟨c,hc,rfl⟩,rfl⟩;have e2:(d0.1.length:Int)∈ci (ksC cs):=List.mem_map.mpr ⟨d0.1,List.mem_map.mpr ⟨d0,by rw[hcs];exact Am,rfl⟩,rfl⟩;have:=one _ e1 _ e2;omega
      ·rw[List.all_map,List.all_eq_true] at a3
       have a4:(!decide (V.int c.2=V.int 0))=true:=a3 c hc;rw[z] at a4;exact absurd a4 ξ
     refine aW ⟨_,rfl,_,rfl,l,D,as,d,cs,rfl,s4 _ _ hl,Paired.mapP (p.tps ht) (fun b ps e=>bD _ _ (dF (show O b=some _ from e) ai (by intro z;cases z)) e),qA,oc,fun H5 b0 va=>⟨_,rfl,rfl,_,rfl,?_⟩⟩;have Y:Same H H5:=fun b u G=>b0 _ _ (zg G W) (s4 _ _ G)
     by_cases v:be (b9 d cs)=text
     ·rw[show(!decide (V.str (be (b9 d cs))=V.str text))=false by rw[decide_eq_true (by rw[v])];rfl]
      refine aW ⟨_,rfl,D,bx cs,W,va,fun H6 h6 tK=>yes (by rw[q,J];simp only[bu,decide_eq_true v];rfl) D H6 (fun b u G=>?_) W h6⟩;rw[tK b (zg G W)];exact Y _ _ G
     ·rw[show(!decide (V.str (be (b9 d cs))=V.str text))=true by rw[decide_eq_false (fun z=>v (by injection z))];rfl]
      exact aK (U (by rw[q,J];simp only[bu,decide_eq_false v];rfl) Y)
end
end K18
end
section
namespace K18
open K1
open PySem L2
abbrev i3:Stmt:=top 56
def xy(C:Addr)(i:Nat)(b:Bool):TE:=fun σ H Q=>∃x,σ[i]?=some (some (.ref x))/\H x=some (eM x C)/\Q (.bl b) H
section
variable{X:Cx}{x1 x2 x3 x4:Str}{j1 j2 j3 j4:Nat}{p1 p2 p3 p4:Pos}{es:List Expr}{t:TA}
def gK{n a:Str}{i:Nat}{C d:Addr}{b:Bool}{g f j pos:Pos}(xc:dU X.K C)(y:AJ X.K (.ref C) (.ref d)=some b)(l:X.mg "isinstance"=none)(o:X.mg a=some (.ref d))(p:Gl X "isinstance")(r:Gl X a)(he:PE X (.Name n f) (a' i))(w:(a==("__debug__":Str))=false:=by decide):PE X (.Call (.Name "isinstance" g) [.Name n f,.Name a j] [] pos) (xy C i b):=by
 intro aa s σ H Q I h;obtain⟨x,e,hx,q⟩:=h;refine(show PE X _ _ from zk (CL (c:=.ref d) (fun u h=>h) xc y) p l BI (af he (af (gP (v:=.ref d) r o rfl (hd:=w)) ao))) aa s σ H Q I ?_;exact⟨_,e,x,rfl,hx,q⟩
def Db(h:PA X es t):PA X (.Constant (.str x1) j1 p1::.Constant (.str x2) j2 p2::.Constant (.str x3) j3 p3::.Constant (.str x4) j4 p4::es) (cu (tC (.str x1)) (cu (tC (.str x2)) (cu (tC (.str x3)) (cu (tC (.str x4)) t)))):=
 af pe_str (af pe_str (af pe_str (af pe_str h)))
end
structure Mk(K:Ae)(C f0 f1 f2 f3 f4 f5 f6 f7 f8 f9 dY:Addr)(i:Nat):Prop where
 xc:dU K C
 y0:AJ K (.ref C) (.ref f0)=some (decide (i=0))
 y1:AJ K (.ref C) (.ref f1)=some (decide (i=1))
 y2:AJ K (.ref C) (.ref f2)=some (decide (i=2))
 y3:AJ K (.ref C) (.ref f3)=some (decide (i=3))
 y4:AJ K (.ref C) (.ref f4)=some (decide (i=4))
 y5:AJ K (.ref C) (.ref f5)=some (decide (i=5))
 y6:AJ K (.ref C) (.ref f6)=some (decide (i=6))
 y7:AJ K (.ref C) (.ref f7)=some (decide (i=7))
 y8:AJ K (.ref C) (.ref f8)=some (decide (i=8))
 y9:AJ K (.ref C) (.ref f9)=some (decide (i=9))
 y10:AJ K (.ref C) (.ref dY)=some (decide (i=10))
 yv:AJ K (.ref C) (.type "ValueError")=some true
def JW{K:Ae}{C f0 f1 f2 f3 f4 f5 f6 f7 f8 f9 j:Addr}{i:Nat}(a:PySem.W.findIn K (.ref C) "__getattribute__"=some (some (.builtin "BaseException.__getattribute__")))(b:PySem.W.findIn K (.ref C) "__getattr__"=some none)(q:PySem.W.excIn K C jx "ValueError.__new__"=true)(c:PySem.W.findIn K (.ref C) "__class__"=some (some (.builtin "object.__class__")))(d:PySem.W.specialIn K (.builtin "object.__class__") "__get__"=some (some (.builtin "getset_descriptor.__get__")))(e:PySem.W.takesIn K (.builtin "object.__class__")=some true)(f:PySem.W.mroIn K C (.type "object")=some true)(g:PySem.W.mroIn K C (.type "BaseException")=some true)(l:AJ K (.ref C) (.ref f0)=some (decide (i=0)))(o:AJ K (.ref C) (.ref f1)=some (decide (i=1)))(p:AJ K (.ref C) (.ref f2)=some (decide (i=2)))(r:AJ K (.ref C) (.ref f3)=some (decide (i=3)))(s:AJ K (.ref C) (.ref f4)=some (decide (i=4)))(u:AJ K (.ref C) (.ref f5)=some (decide (i=5)))(v:AJ K (.ref C) (.ref f6)=some (decide (i=6)))(w:AJ K (.ref C) (.ref f7)=some (decide (i=7)))(x:AJ K (.ref C) (.ref f8)=some (decide (i=8)))(y:AJ K (.ref C) (.ref f9)=some (decide (i=9)))(h:AJ K (.ref C) (.ref j)=some (decide (i=10)))(z:AJ K (.ref C) (.type "ValueError")=some true):Mk K C f0 f1 f2 f3 f4 f5 f6 f7 f8 f9 j i:=⟨Jm a b q c d e f g,l,o,p,r,s,u,v,w,x,y,h,z⟩
def JX:List Expr:=match List.drop 4 (zE i3) with
 |[.Assign _ (.List E _) _,_]=>E
 |_=>[]
def xz:Stmt:=(List.drop 5 (zE i3)).headD (.Pass ⟨0,0,0,0⟩)
def wS(i:Nat):Stmt:=(zE i3).getD i (.Pass ⟨0,0,0,0⟩)
def w2:∃E:List Expr,zE i3=[wS 0,wS 1,wS 2,wS 3,.Assign [.Name "some" ⟨208,4,208,8⟩] (.List E ⟨208,11,208,105⟩) ⟨208,4,208,105⟩,xz]/\∀X:Cx,PA X E (cu (tC (.str "web")) (cu (tC (.str "piece")) (cu (tC (.str "chain")) (cu (tC (.str "closed")) (cu (tC (.str "table")) (cu (tC (.str "goal")) (cu (tC (.str "push")) (cu (tC (.str "map")) (cu (tC (.str "order")) (cu (tC (.str "number")) (cu (tC (.str "note")) cg))))))))))):=
 ⟨JX,rfl,fun X=>Db (Db (af pe_str (af pe_str (af pe_str ao))))⟩
section
variable{P:Program}{w:World}{K:Ae}{mg:Str->Option Value}{base:Heap}
def wd:Nat->Str
 |_=>"note"
def Dc(K:Ae)(f0 f1 f2 f3 f4 f5 f6 f7 f8 f9 a:Addr):Sp:=fun vs H Q _=>∃x C i,vs=[.ref x]/\Mk K C f0 f1 f2 f3 f4 f5 f6 f7 f8 f9 a i/\(i=10)/\H x=some (eM x C)/\∀H',Same H H'->Q (.str (wd i)) H'
def nu:zo ["e","low","some"] ["e"] (ze i3):=⟨rfl,rfl,rfl,δ,rfl,δ,δ⟩
def JY{f f0 f1 f2 f3 f4 f5 f6 f7 f8 f9 D:Addr}{fd:FuncData}(F:Fun K "_law_which" "_law_which" i3 f fd)(b:mg "isinstance"=none)(T:mg "ValueError"=none)(U:mg "NoWeb"=some (.ref f0))(W:mg "NoPiece"=some (.ref f1))(X:mg "NoChain"=some (.ref f2))(Y:mg "NotClosed"=some (.ref f3))(Z:mg "NoTable"=some (.ref f4))(m5:mg "NoGoal"=some (.ref f5))(m6:mg "NoPush"=some (.ref f6))(m7:mg "NoMap"=some (.ref f7))(m8:mg "NoOrder"=some (.ref f8))(m9:mg "NoNumber"=some (.ref f9))(lY:mg "NoNote"=some (.ref D))
 :nh P w K mg base 1 f fd ["e"] (Dc K f0 f1 f2 f3 f4 f5 f6 f7 f8 f9 D):=by
 refine F.okN nu (fun vs H Q E h=>?_) (fun cdv A outer s H vs Q E hr h=>?_)
 ·obtain⟨x,C,i,rfl,_⟩:=h;rfl
 ·obtain⟨x,C,i,rfl,M,hi,hx,k⟩:=h
  obtain⟨EL,L,N⟩:=w2;rw[L];refine⟨_,za (zj (i:=1) nu.nd rfl (Or.inl rfl) (zN (af (gK M.xc M.y0 b U rfl rfl (pv 0)) (af (gK M.xc M.y1 b W rfl rfl (pv 0)) (af (gK M.xc M.y2 b X rfl rfl (pv 0)) (af (gK M.xc M.y3 b Y rfl rfl (pv 0)) ao))))))
   (za (zj (i:=1) nu.nd rfl (Or.inl rfl) (zq gg (pv 1) (zN (af (gK M.xc M.y4 b Z rfl rfl (pv 0)) (af (gK M.xc M.y5 b m5 rfl rfl (pv 0)) (af (gK M.xc M.y6 b m6 rfl rfl (pv 0)) (af (gK M.xc M.y7 b m7 rfl rfl (pv 0)) ao)))))))
   (za (zj (i:=1) nu.nd rfl (Or.inl rfl) (zq gg (pv 1) (zN (af (gK M.xc M.y8 b m8 rfl rfl (pv 0)) (af (gK M.xc M.y9 b m9 rfl rfl (pv 0)) (af (gK M.xc M.y10 b lY rfl rfl (pv 0)) ao))))))
   (za (zI (PW.pt (i4 (fU (iE (zk (CL (c:=.ty "ValueError") (fun u h=>h) M.xc M.yv) rfl b BI (af (pv 0) (af (DT (v:=.ty "ValueError") rfl T PyProof.Rows.Boot.«ValueError» rfl) ao))))) (jF (zl ja (zP AF PySem.F.slot_list_count PySem.F.type_list_count I0 (pv 1) (af fC ao)) zf (au _)))))
     (zd (zm pe_str)) zp)
   (za (zj (i:=2) nu.nd rfl (Or.inl rfl) (zN (N _)))
    (zd (zm (cA zM (pv 2) (zP AF PySem.F.slot_list_index PySem.F.type_list_index I_ (pv 1) (af fC ao)) (fun _ _=>rfl)))))))),?_⟩
  refine⟨x,rfl,hx,x,rfl,hx,x,rfl,hx,x,rfl,hx,zb (by simp),fun p hp=>?_⟩;have d:=Same.new (o:=.lst [.bl (decide (i=0)),.bl (decide (i=1)),.bl (decide (i=2)),.bl (decide (i=3))]) hp;refine⟨_,rfl,x,rfl,d _ _ hx,x,rfl,d _ _ hx,x,rfl,d _ _ hx,x,rfl,d _ _ hx,zb (by simp),fun p2 l=>?_⟩;have O:=d.trans (Same.new (o:=.lst [.bl (decide (i=4)),.bl (decide (i=5)),.bl (decide (i=6)),.bl (decide (i=7))]) l);refine⟨p,p2,_,_,rfl,rfl,(Same.new l) _ _ al,al,zb (by simp),fun p3 G=>?_⟩;have g:=O.trans (Same.new (o:=.lst [.bl (decide (i=0)),.bl (decide (i=1)),.bl (decide (i=2)),.bl (decide (i=3)),.bl (decide (i=4)),.bl (decide (i=5)),.bl (decide (i=6)),.bl (decide (i=7))]) G);refine⟨_,rfl,x,rfl,g _ _ hx,x,rfl,g _ _ hx,x,rfl,g _ _ hx,zb (by simp),fun p4 q=>?_⟩;have S:=g.trans (Same.new (o:=.lst [.bl (decide (i=8)),.bl (decide (i=9)),.bl (decide (i=10))]) q);refine⟨p3,p4,_,_,rfl,rfl,(Same.new q) _ _ al,al,zb (by simp),fun j I=>?_⟩;have y:=S.trans (Same.new (o:=.lst [.bl (decide (i=0)),.bl (decide (i=1)),.bl (decide (i=2)),.bl (decide (i=3)),.bl (decide (i=4)),.bl (decide (i=5)),.bl (decide (i=6)),.bl (decide (i=7)),.bl (decide (i=8)),.bl (decide (i=9)),.bl (decide (i=10))]) I);refine⟨_,rfl,x,rfl,y _ _ hx,_,rfl,?_⟩;refine aW ⟨_,rfl,.inl ⟨rfl,_,SqL.of al⟩,j,_,.bl true,rfl,rfl,al,rfl,?_⟩;subst hi
  ·refine⟨rfl,rfl,false,(by first|rfl|decide),aW ⟨zb (by simp),fun J r=>?_⟩⟩
   have z:=(Same.new (o:=.lst [.str "web",.str "piece",.str "chain",.str "closed",.str "table",.str "goal",.str "push",.str "map",.str "order",.str "number",.str "note"]) r) _ _ (al (a:=j));refine⟨_,rfl,_,rfl,.inl ⟨rfl,_,SqL.of z⟩,j,_,.bl true,10,rfl,rfl,z,ξ,rfl,ξ,ξ,(fun m hm=>?_),J,_,10,_,rfl,rfl,SqL.of al,rfl,k _ (y.trans (Same.new r))⟩;have:m=0\/m=1\/m=2\/m=3\/m=4\/m=5\/m=6\/m=7\/m=8\/m=9:=ω
   rcases this with rfl|rfl|rfl|rfl|rfl|rfl|rfl|rfl|rfl|rfl<;>decide
end
end K18
end
section
namespace K18
open K1 Tx
open PySem L2 STb
abbrev xB:Stmt:=top 61
section
variable{P:Program}{w:World}{K:Ae}{mg:Str->Option Value}{base:Heap}{f fw f0 f1 f2 f3 f4 f5 f6 f7 f8 f9 fN fS:Addr}{fd dS:FuncData}
def rd(K:Ae):Sp:=fun vs H Q E=>∃l as a text,vs=[.ref l,.str text]/\H l=some (.lst (as.map V.ref))/\Tps H as a/\cG a/\(canon a).length<=56/\text.length<=50000/\(Al text " ").length<=(canon a).length+3/\
 ((∃cs,fM a text=some cs/\∀D H',Same H H'->H D=none->H' D=some (.dT (bx cs))->Q (.ref D) H')\/(fM a text=none/\∀H',Same H H'->Q (.str "note") H'))
def nw:zo ["web","text","told","e"] ["web","text"] (ze xB):=⟨rfl,rfl,rfl,δ,rfl,δ,δ⟩
def JZ(F:Fun K "_law_asked" "_law_asked" xB f fd)(I:mg "SeamError"=some (.ref fS))(N:Cl P w K mg base (cO P w) "read_chain" ["web","text"] 12 (Da fN))(Fw:Fun K "_law_which" "_law_which" i3 fw dS)(J:Binds K dS ["e"] [])(L:mg "_law_which"=some (.ref fw))(O:nh P w K mg base 1 fw dS ["e"] (Dc K f0 f1 f2 f3 f4 f5 f6 f7 f8 f9 fN))(M:Mk K fN f0 f1 f2 f3 f4 f5 f6 f7 f8 f9 fN 10)(S:iA K fN fS):FnOk P w K mg base aE 13 f fd ["web","text"] (rd K):=by
 refine F.ok nw (fun vs H Q E h=>?_) (fun cdv A outer s H vs Q E hr h=>?_)
 ·obtain⟨l,as,u,text,rfl,_⟩:=h;rfl
 ·obtain⟨l,as,u,text,rfl,j,ht,hw,o,G,p,h⟩:=h
  have r:Room 1 _:=hr.mono ξ;refine⟨_,za (zj (i:=2) nw.nd rfl (Or.inl rfl) fQ)
   (za (IQ (ie:=3) (S:=fS) rfl nw.nd rfl rfl rfl rfl rfl I
    (fun aa EB=>zd (zj (i:=2) nw.nd rfl (Or.inl rfl) (zQ N hr rfl (IP rfl) (af (pv 0) (af (pv 1) ao)))))
    (fun aa x=>zd (zj (i:=2) nw.nd rfl (Or.inl rfl) (IY (E:=E0) O (r.mark _) rfl L Fw.kp J .nil (af (pv 3) ao)))))
   (zd (zm (pv 2)))),?_⟩
  refine⟨_,rfl,_,rfl,l,as,u,text,rfl,j,ht,hw,o,G,p,?_⟩;rcases h with ⟨cs,q,k⟩|⟨q,k⟩
  ·exact .inl ⟨cs,q,fun D H' g v y=>⟨_,rfl,k D H' g v y⟩⟩
  ·refine .inr ⟨q,fun H1 g x hx=>⟨x,fN,rfl,rfl,S,fun z j=>?_⟩⟩
   match z,j with
   |[a,b,c,d],_=>exact⟨_,rfl,x,fN,10,rfl,M,rfl,al,fun H2 C=>⟨_,rfl,k H2 (g.trans ((Same.new hx).trans C))⟩⟩
end
abbrev xC:Stmt:=top 57
abbrev xD:TT:=jQ (dZ (fun x y H Q=>∃i j,x=.str i/\y=.str j/\Q (.bl (!(!(Builtin.Str.occurrences j i 0 j.length 1).isEmpty))) H) (a' 0) (tC (.str "0123456789")))
def bad(x:Str):List Nat:=x.cps.toList.filter fun c=>!dr c
def ri{x:Str}:(0<(bad x).length)=¬(x.cps.toList.all dr=true):=by
 unfold bad;refine propext ⟨fun h a=>?_,fun h=>?_⟩
 ·obtain⟨c,hc⟩:=List.exists_mem_of_length_pos h
  obtain⟨h1,h2⟩:=List.mem_filter.mp hc;rw[List.all_eq_true.mp a c h1] at h2;cases h2
 ·apply Nat.pos_of_ne_zero
  intro z;refine h (List.all_eq_true.mpr fun c hc=>?_);have:=(List.filter_eq_nil_iff.mp (List.length_eq_zero_iff.mp z)) c hc
  simpa using this
section
variable{P:Program}{w:World}{K:Ae}{mg:Str->Option Value}{base:Heap}{f:Addr}{fd:FuncData}
def Dd{H2:Hp}{D:Addr}{x:Str}{Q:VK}(h2:x.length<=100)(g:H2 D=none)(k:∀a,Same H2 a->a D=some (.lst ((bad x).map fun c=>V.str ⟨#[c]⟩))->Q (.ref D) a):cF (kj x) (dc 0) xD (a' 0) [none] H2 D Q:=by
 have hsz:x.cps.size=x.length:=rfl;refine wz (fun j σ ys a=>∃v:Option V,σ=[v]/\Same H2 a/\a D=some (.lst ys)/\ys=((x.cps.toList.take j).filter fun c=>!dr c).map fun c=>V.str ⟨#[c]⟩) ?_ ?_ ?_
 ·exact⟨none,rfl,Same.new g,al,rfl⟩
 ·rintro j σ ys a c hx e hy ⟨v,rfl,d,b,rfl⟩
  have f:x.cps.toList[j]?=some c:=by simpa using hx
  refine⟨_,rfl,_,_,rfl,rfl,_,rfl,?_⟩;rw[nk c];cases hb:dr c with
  |true=>exact aW (gj e hy ⟨_,rfl,d,b,by rw[AX f,List.filter_append];simp[hb]⟩)
  |false=>exact aK ⟨_,rfl,bR (zb ω) e hy b ⟨_,rfl,d.then g,al,by rw[AX f,List.filter_append,At];simp[hb]⟩⟩
 ·rintro σ ys a ⟨v,rfl,d,b,rfl⟩
  rw[AD (by simp)] at b;exact k a d b
def cr:Option Int->V
 |some i=>.int i
 |none=>.non
def dW(x:Str):Option Int:=if okN 2 x=true then some (valN x) else none
def xF:Sp:=fun vs H Q _=>∃x,vs=[.str x]/\x.length<=100000/\∀H',Same H H'->Q (cr (dW x)) H'
def J0:zo ["word"] ["word"] (ze xC):=⟨rfl,rfl,rfl,δ,rfl,δ,δ⟩
def J1(F:Fun K "_law_point" "_law_point" xC f fd)(B:Bt mg):FnOk P w K mg base aE 1 f fd ["word"] xF:=by
 refine F.ok J0 (fun vs H Q E h=>?_) (fun cdv A outer s H vs Q E hr h=>?_)
 ·obtain⟨x,rfl,_⟩:=h;rfl
 ·obtain⟨x,rfl,y,k⟩:=h
  have o:x.length<=sizeLine:=zb y;refine⟨_,za (zI (PW.pt (i4 (fU (nQ fW fW zf (zk zY rfl B.len cv (af (pv 0) ao)) zf)) (jF (zl iH (zk zn rfl B.len cv (af (zw ["word"] ["sign"] [none] (oH (pv 0)) (fun p C s₀ H₀ ex=>zr (i:=0) (cW ["sign"]) rfl (Or.inl rfl))
     (fun p C s₀ H₀ ex=>oh (zl x5 (pv 0) pe_str (by with_unfolding_all rfl))) (fun p C s₀ H₀ ex=>pv 0) (hfr:=bK δ) (tc:=xD)) ao)) zf (au _))))) (zd (zm fQ)) zp)
   (za (zI (PW.pt (sr (zl d_ (zk zY rfl B.len cv (af (pv 0) ao)) zf (au _)) (sk (zl d_ (cA nZ (pv 0) zf (fun _ _=>rfl)) pe_str (au _))))) (zd (zm fQ)) zp)
   (zd (zm (zt ol rfl B.int oV (af (pv 0) ao))))),?_⟩
  have d:∀{H1:Hp},okN 2 x=false->Same H H1->Q .non H1:=fun hb g=>by
   have:=k _ g;unfold dW at this;rw[hb,if_neg ξ] at this;exact this
  have a:∀{H1:Hp},okN 2 x=true->Same H H1->Q (.int (valN x)) H1:=fun hb g=>by
   have:=k _ g;unfold dW at this;rw[hb,if_pos rfl] at this;exact this
  have q:Same H H:=Same.refl _;refine⟨_,rfl,_,rfl,o,_,_,rfl,rfl,_,rfl,?_⟩
  by_cases h1:(1:Int)<=(x.length:Int)
  rotate_left
  ·rw[decide_eq_false h1]
   exact aW ⟨_,rfl,aK (d (by unfold okN;rw[decide_eq_false h1];rfl) q)⟩
  rw[decide_eq_true h1];refine aK ⟨_,_,rfl,rfl,_,rfl,?_⟩
  by_cases h2:(x.length:Int)<=2
  rotate_left
  ·rw[decide_eq_false h2]
   exact aK (d (by unfold okN;rw[decide_eq_false h2,A9,AW]) q)
  rw[decide_eq_true h2];refine aW ⟨_,rfl,_,rfl,fun D u=>zH (Dd ω u fun L b v=>⟨D,_,rfl,.inl (SqL.of v),_,_,rfl,rfl,_,rfl,?_⟩)⟩;rw[Ab];cases h3:x.cps.toList.all dr with
  |false=>
   have hp:0<(bad x).length:=by rw[ri,h3];decide
   rw[decide_eq_true (show(0:Int)<((bad x).length:Int) from ω)];exact aK (d (by unfold okN;rw[h3,A9,AW,AW]) b)
  |true=>
   have hp:¬0<(bad x).length:=by rw[ri,h3];decide
   have r:=qI h3 ω h2 ξ;rw[decide_eq_false (show ¬(0:Int)<((bad x).length:Int) from ω)];refine aW ⟨_,rfl,_,rfl,o,rfl,_,rfl,bv (fun h4=>?_) fun h4=>?_⟩
   ·have J:(x.length:Int)=2:=by have:=of_decide_eq_true h4;injection this
    have e:decide ((1:Int)<(x.length:Int))=true:=decide_eq_true ω;obtain⟨c,l⟩:∃c,x.cps.toList[0]?=some c:=⟨_,Af (by rw[Au];show 0<x.length;omega)⟩;refine⟨_,rfl,_,_,c,rfl,rfl,o,zC (j:=0) l,rfl,_,rfl,?_⟩;have G:decide (V.str ⟨#[c]⟩=V.str "0")=decide (c=48):=by
     refine decide_eq_decide.mpr ⟨fun z=>?_,fun z=>?_⟩
     ·injection z with z
      have I:("0":Str)=⟨#[48]⟩:=δ
      rw[I] at z;injection z with z
      simpa using z
     ·rw[z];decide +kernel
    rw[G]
    by_cases hc:c=48
    ·rw[decide_eq_true hc]
     exact aK (d (by unfold okN;rw[h3,l,hc,e,decide_eq_true h1,decide_eq_true h2];rfl) b)
    ·rw[decide_eq_false hc]
     exact aW ⟨_,rfl,_,_,rfl,r,ω,a (by unfold okN;rw[h3,l,e,decide_eq_true h1,decide_eq_true h2,decide_eq_false (fun z=>hc (Ai z))];rfl) b⟩
   ·have e:decide ((1:Int)<(x.length:Int))=false:=decide_eq_false fun z=>h4 (decide_eq_true (by rw[show(x.length:Int)=2 from ω]))
    exact aW ⟨_,rfl,_,_,rfl,r,ω,a (by unfold okN;rw[h3,e,decide_eq_true h1,decide_eq_true h2];rfl) b⟩
end
abbrev gO:Stmt:=top 58
def J2(x:Str):decide (V.str (Txt.slice x none (some 1))=V.str "-")=ck x:=by
 have b:("-":Str)=⟨#[45]⟩:=dk;unfold ck;refine decide_eq_decide.mpr ?_;cases e:x.cps.toList with
 |nil=>
  have hx:x=⟨#[]⟩:=Str.ext' (Array.toList_inj.mp (by rw[e]));rw[hx];have:¬(Txt.slice (⟨#[]⟩:Str) none (some 1)="-"):=δ
  exact⟨fun z=>absurd (by injection z) this,fun z=>by cases z⟩
 |cons a r=>
  have c:x.cps.toList.length=r.length+1:=by rw[e];rfl
  have hs:Txt.slice x none (some 1)=⟨#[a]⟩:=by
   rw[show Txt.slice x none (some 1)=⟨((x.cps.toList.drop 0).take ((1:Int)-0).toNat).toArray⟩ from StrLaws.sliceText_to ⟨ξ,ω⟩,e]
   rfl
  rw[hs,b];exact⟨fun z=>by injection z with z;injection z with z;have:a=45:=(by simpa using z);rw[this];rfl,fun z=>by have:a=45:=Ai z;rw[this]⟩
def fgs(x:Str):Str:=if ck x=true then tl x else x
def De(x:Str):zv x=okN 30 (fgs x):=by unfold zv fgs;split<;>rfl
def gZ(x:Str):Option Int:=if(zv x&&!decide ((fgs x).cps.toList[0]?=some 48))=true then some (zB x) else none
def J3{x:Str}(h:x.length<=100000)(hf:(fgs x).cps.toList.all dr=true)(h1:1<=(fgs x).length)(h2:(fgs x).length<=30):intText? x=some (zB x)/\x.length<=31:=by
 unfold fgs at hf h1 h2;unfold zB
 by_cases b:ck x=true
 ·rw[if_pos b] at hf h1 h2
  rw[if_pos b];obtain⟨e,g⟩:=nq b;refine⟨?_,ω⟩;have h':=of_decide_eq_true b;cases ex:x.cps.toList with
  |nil=>rw[ex] at h';cases h'
  |cons a r=>
   rw[ex] at h' e;have f:a=45:=Ai h';have d:(tl x).cps.toList=r:=e;subst f;unfold valN;rw[d];rw[d] at hf;refine intText_neg ex (fun c hc=>of_decide_eq_true (List.all_eq_true.mp hf c hc)) (fun z=>?_) ω;have:(tl x).cps.toList.length=(tl x).length:=Au;rw[d,z] at this;simp at this;omega
 ·rw[if_neg b] at hf h1 h2
  rw[if_neg b];exact⟨qI (m:=30) hf h1 ω ξ,ω⟩
section
variable{P:Program}{w:World}{K:Ae}{mg:Str->Option Value}{base:Heap}{f:Addr}{fd:FuncData}
def Dg:Sp:=fun vs H Q _=>∃x,vs=[.str x]/\x.length<=100000/\∀H',Same H H'->Q (cr (gZ x)) H'
def xG:zo ["word","figures"] ["word"] (ze gO):=⟨rfl,rfl,rfl,δ,rfl,δ,δ⟩
def J4(F:Fun K "_law_weight" "_law_weight" gO f fd)(B:Bt mg):FnOk P w K mg base aE 1 f fd ["word"] Dg:=by
 refine F.ok xG (fun vs H Q E h=>?_) (fun cdv A outer s H vs Q E hr h=>?_)
 ·obtain⟨x,rfl,_⟩:=h;rfl
 ·obtain⟨x,rfl,g,k⟩:=h
  have R2:∃r,PSs (aZ aE P w K mg base ["word","figures"] "_law_weight" (ze gO) f cdv A outer s H E).nox (List.drop 2 (zE gO)) r/\
    r {nx:=fun _ H'=>Q .non H',rt:=Q} [some (.str x),some (.str (fgs x))] H:=by
   refine⟨_,za (zI (PW.pt (i4 (fU (nQ fW fW zf (zk zY rfl B.len cv (af (pv 1) ao)) zf)) (jF (zl iH (zk zn rfl B.len cv (af (zw ["word","figures"] ["sign"] [none] (oH (pv 1)) (fun q C s₀ H₀ ex=>zr (i:=0) (cW ["sign"]) rfl (Or.inl rfl))
     (fun q C s₀ H₀ ex=>oh (zl x5 (pv 0) pe_str (by with_unfolding_all rfl))) (fun q C s₀ H₀ ex=>pv 0) (hfr:=bK δ) (tc:=xD)) ao)) zf (au _))))) (zd (zm fQ)) zp)
    (za (zI (zl d_ (cA nZ (pv 1) zf (fun _ _=>rfl)) pe_str (au _)) (zd (zm fQ)) zp)
    (zd (zm (zt ol rfl B.int oV (af (pv 0) ao))))),?_⟩
   have J:(fgs x).length<=x.length:=by
    unfold fgs;split
    ·rename_i hn;have:=(nq hn).2;omega
    ·exact Ag _
   have u:(fgs x).length<=sizeLine:=zb ω;have b:∀{H1:Hp},(zv x&&!decide ((fgs x).cps.toList[0]?=some 48))=false->Same H H1->Q .non H1:=fun hb d=>by
    have:=k _ d;unfold gZ at this;rw[hb,if_neg ξ] at this;exact this
   have o:∀{H1:Hp},(zv x&&!decide ((fgs x).cps.toList[0]?=some 48))=true->Same H H1->Q (.int (zB x)) H1:=fun hb d=>by
    have:=k _ d;unfold gZ at this;rw[hb,if_pos rfl] at this;exact this
   have v:Same H H:=Same.refl _;have a:=De x;refine⟨_,rfl,_,rfl,u,_,_,rfl,rfl,_,rfl,?_⟩
   by_cases h1:(1:Int)<=((fgs x).length:Int)
   rotate_left
   ·rw[decide_eq_false h1]
    exact aW ⟨_,rfl,aK (b (by rw[a];unfold okN;rw[decide_eq_false h1];rfl) v)⟩
   rw[decide_eq_true h1];refine aK ⟨_,_,rfl,rfl,_,rfl,?_⟩
   by_cases h2:((fgs x).length:Int)<=30
   rotate_left
   ·rw[decide_eq_false h2]
    exact aK (b (by rw[a];unfold okN;rw[decide_eq_false h2,A9,AW];rfl) v)
   rw[decide_eq_true h2];refine aW ⟨_,rfl,_,rfl,fun D y=>zH (Dd ω y fun S e G=>⟨D,_,rfl,.inl (SqL.of G),_,_,rfl,rfl,_,rfl,?_⟩)⟩;rw[Ab];cases h3:(fgs x).cps.toList.all dr with
   |false=>
    have hp:0<(bad (fgs x)).length:=by rw[ri,h3];decide
    rw[decide_eq_true (show(0:Int)<((bad (fgs x)).length:Int) from ω)];exact aK (b (by rw[a];unfold okN;rw[h3,A9,AW,AW];rfl) e)
   |true=>
    have hp:¬0<(bad (fgs x)).length:=by rw[ri,h3];decide
    obtain⟨I,N⟩:=J3 g h3 ω ω;rw[decide_eq_false (show ¬(0:Int)<((bad (fgs x)).length:Int) from ω)];obtain⟨c,l⟩:∃c,(fgs x).cps.toList[0]?=some c:=⟨_,Af (by rw[Au];show 0<(fgs x).length;omega)⟩;refine aW ⟨_,rfl,_,_,c,rfl,rfl,u,zC (j:=0) l,rfl,_,rfl,?_⟩;have L:decide (V.str ⟨#[c]⟩=V.str "0")=decide (c=48):=by
     refine decide_eq_decide.mpr ⟨fun z=>?_,fun z=>?_⟩
     ·injection z with z
      have M:("0":Str)=⟨#[48]⟩:=δ
      rw[M] at z;injection z with z
      simpa using z
     ·rw[z];decide +kernel
    rw[L]
    by_cases hc:c=48
    ·rw[decide_eq_true hc]
     exact aK (b (by rw[l,hc];simp) e)
    ·rw[decide_eq_false hc]
     have p:decide (some c=some 48)=false:=decide_eq_false (fun z=>hc (Ai z));exact aW ⟨_,rfl,_,_,rfl,I,ω,o (by rw[a];unfold okN;rw[l,p,h3,decide_eq_true h1,decide_eq_true h2,AW];rfl) e⟩
  obtain⟨O,h2,e2⟩:=R2;refine⟨_,za (zj (i:=1) xG.nd rfl (Or.inl rfl) (pv 0))
   (za (zI (zl d_ (z0 iz (pv 0) fX (ge zf)) pe_str (au _)) (zd (zj (i:=1) xG.nd rfl (Or.inl rfl) (z0 iz (pv 0) (ge zf) fX))) zp)
   h2),?_⟩
  refine⟨_,rfl,_,rfl,_,rfl,_,rfl,zb g,rfl,_,rfl,?_⟩;rw[J2];unfold fgs at e2;cases hn:ck x with
  |true=>
   rw[hn,if_pos rfl] at e2;exact aK ⟨_,rfl,_,rfl,_,rfl,zb g,e2⟩
  |false=>
   rw[hn,if_neg ξ] at e2;exact aW e2
end
def xH{m:Int}{x:Str}(h:okN m x=true):1<=x.length/\(x.length:Int)<=m/\(∀c∈x.cps.toList,48<=c/\c<=57)/\(x.cps.toList.length=1\/x.cps.toList[0]?≠some 48):=by
 have hf:=xt h;have a:x.cps.toList.length=x.length:=Au;unfold okN at h;rw[AB,AB,AB,decide_eq_true_eq,decide_eq_true_eq] at h;obtain⟨h1,h2,_,h4⟩:=h;refine⟨ω,h2,hf,?_⟩
 by_cases e:x.cps.toList[0]?=some 48
 ·rw[decide_eq_true e,Bool.and_true,Bool.not_eq_true',decide_eq_false_iff_not] at h4
  exact .inl ω
 ·exact .inr e
def Dh{m:Int}{x:Str}(h:okN m x=true):fig (valN x)=x/\(0<valN x\/x.cps.toList=[48]):=by
 obtain⟨h1,_,d,h4⟩:=xH h;have c:x.cps.toList.length=x.length:=Au;obtain⟨a,b⟩:=JN x.cps.toList (fun z=>by rw[z] at c;simp at c;omega) d h4;refine⟨mU ?_,b.imp (fun z=>by unfold valN;omega) id⟩;unfold valN;rw[eL,a]
def xI{m:Int}{n:Int}(f:0<=n)(hs:n<10 ^ 30)(hm:((fig n).length:Int)<=m)(g:m<=100):okN m (fig n)=true/\valN (fig n)=n:=by
 obtain⟨a,b,_,d,e⟩:=fz f hs;have hf:(fig n).cps.toList.all dr=true:=List.all_eq_true.mpr fun c hc=>decide_eq_true (d c hc);refine⟨?_,?_⟩
 ·unfold okN
  rw[decide_eq_true (show(1:Int)<=((fig n).length:Int) from ω),decide_eq_true hm,hf];rcases e with e|e
  ·rw[decide_eq_false (show ¬(1:Int)<((fig n).length:Int) from ω)];rfl
  ·have:¬(fig n).cps.toList[0]?=some 48:=fun z=>e (by rw[<-z];simp)
   rw[decide_eq_false this,AW];rfl
 ·have:=qI hf b hm g
  rw[a] at this;exact(Ai this).symm
def J5{x:Str}(h:zO x=true):word (ap x)=x/\gT (ap x)/\ap x≠[]:=by
 unfold zO at h;have h':=List.all_eq_true.mp h;refine⟨?_,fun i hi=>?_,fun z=>kF x "-" (List.map_eq_nil_iff.mp z)⟩
 ·unfold word ap
  rw[AC,show(Al x "-").map (fig ∘ valN)=Al x "-" from(AZ fun t ht=>(Dh (h' t ht)).1).trans (List.map_id' _)];rw[show Txt.join "-" (Al x "-")=Str.join "-" (Al x "-") from StrLaws.glued_eq_join _ _,dk,StrLaws.join_split]
 ·obtain⟨t,ht,rfl⟩:=List.mem_map.mp hi
  obtain⟨_,h2,a,_⟩:=xH (h' t ht);have b:=C1 t.cps.toList a;have c:t.cps.toList.length=t.length:=Au;rw[c] at b;have:10 ^ t.length<=10 ^ 2:=Nat.pow_le_pow_right ξ ω;show 0<=valN t/\valN t<=99;unfold valN;omega
def Di{p:List Int}(h:gT p)(a:p≠[]):zO (word p)=true/\ap (word p)=p:=by
 unfold zO ap;rw[Ip h a];have q:∀i∈p,okN 2 (fig i)=true/\valN (fig i)=i:=fun i hi=>by
  obtain⟨_,_,c,_⟩:=p6 (h i hi);have hp:=h i hi;exact xI hp.1 ω ω ξ
 refine⟨?_,?_⟩
 ·rw[List.all_map,List.all_eq_true]
  exact fun i hi=>(q i hi).1
 ·rw[AC]
  exact(AZ fun t ht=>(q t ht).2).trans (List.map_id' _)
def J6{n:Int}(h:Sm n):ck (fig n)=decide (n<0):=Iv h
def Dj{n:Int}(h:Sm n):zv (fig n)=true/\zB (fig n)=n/\fgs (fig n)=fig (if n<0 then -n else n):=by
 have d:n.natAbs<10 ^ 30:=h;unfold zv zB fgs;rw[J6 h]
 by_cases c:n<0
 ·rw[decide_eq_true c,if_pos rfl,if_pos rfl,if_pos rfl,if_pos c]
  have e:tl (fig n)=fig (-n):=Iw c;rw[e];obtain⟨a,b⟩:=xI (m:=30) (n:=-n) ω ω (by have:=(fz (n:=-n) ω ω).2.2.1;omega) ξ;exact⟨a,by rw[b];omega,rfl⟩
 ·rw[decide_eq_false c,if_neg ξ,if_neg ξ,if_neg ξ,if_neg c]
  obtain⟨a,b⟩:=xI (m:=30) (n:=n) ω ω (by have:=(fz (n:=n) ω ω).2.2.1;omega) ξ;exact⟨a,b,rfl⟩
def xJ{x:Str}(h:zv x=true):((fgs x).cps.toList[0]?≠some 48↔zB x≠0)/\(zB x≠0->fig (zB x)=x):=by
 rw[De] at h;obtain⟨a,b⟩:=Dh h;obtain⟨_,_,_,h4⟩:=xH h;have d:valN (fgs x)≠0↔(fgs x).cps.toList[0]?≠some 48:=by
  constructor
  ·intro z e
   rcases h4 with h4|h4
   ·have:(fgs x).cps.toList=[48]:=by
     cases ex:(fgs x).cps.toList with
     |nil=>rw[ex] at h4;cases h4
     |cons u r=>
      rw[ex] at h4 e;have:r=[]:=List.length_eq_zero_iff.mp (by simpa using h4);rw[this];injection e with e;rw[e]
    apply z;unfold valN;rw[this];rfl
   ·exact h4 e
  ·intro z e
   rcases b with b|b
   ·omega
   ·rw[b] at z;exact z rfl
 unfold zB
 by_cases c:ck x=true
 ·have f:fgs x=tl x:=by unfold fgs;rw[if_pos c]
  rw[if_pos c];rw[f] at a b d ⊢;refine⟨by rw[<-d];omega,fun g=>?_⟩;have hp:0<valN (tl x):=by
   rcases b with b|b
   ·exact b
   ·exfalso;apply g;unfold valN;rw[b];rfl
  obtain⟨m,e1,e2⟩:=mS (n:=-valN (tl x)) ω;rw[e1];apply mU;rw[jw,<-e2,show - -valN (tl x)=valN (tl x) from ω,a,(nq c).1];have h':=of_decide_eq_true c;cases ex:x.cps.toList with
  |nil=>rw[ex] at h';cases h'
  |cons u r=>rw[ex] at h';have:u=45:=Ai h';rw[this];rfl
 ·have f:fgs x=x:=by unfold fgs;rw[if_neg c]
  rw[if_neg c];rw[f] at a d ⊢;exact⟨d.symm,fun _=>a⟩
def Dl{x:Str}{n:Int}:gZ x=some n↔zv x=true/\zB x=n/\n≠0:=by
 unfold gZ;constructor
 ·intro h
  split at h
  ·rename_i hb
   rw[AB,Bool.not_eq_true',decide_eq_false_iff_not] at hb;have e:=Ai h;exact⟨hb.1,e,e▸(xJ hb.1).1.mp hb.2⟩
  ·cases h
 ·rintro⟨h1,rfl,a⟩
  rw[h1,Bool.true_and,decide_eq_false ((xJ h1).1.mpr a),Bool.not_false,if_pos rfl]
def Dm{c:List Int×Int}(h:Tm c):Al (term c) "*"=[fig c.2,word c.1]/\ay (term c)=some c:=by
 have hs:Al (term c) "*"=[fig c.2,word c.1]:=by
  rw[jy];rcases cut_two (term_signs c) with ⟨_,_,s⟩|⟨hm,_⟩
  ·rw[s]
  ·obtain⟨a,b⟩:=Iy h
   rcases hm with z|z
   ·exact absurd z a
   ·exact absurd z b
 refine⟨hs,?_⟩;unfold ay;rw[hs];obtain⟨a,b,_⟩:=Dj h.2.2.2;obtain⟨d,e⟩:=Di h.1 h.2.1;show(if(zv (fig c.2)&&zO (word c.1))=true then some (ap (word c.1),zB (fig c.2)) else none)=some c;rw[a,b,d,e,Bool.and_self,if_pos rfl]
def J7{z a b:Str}(hs:Al z "*"=[a,b])(h1:zv a=true)(h2:zO b=true)(c:zB a≠0):term (ap b,zB a)=z:=by
 have e:Str.join "*" (Al z "*")=z:=by rw[jy];exact StrLaws.join_split _ _
 rw[hs] at e;rw[<-e];apply mU;rw[term_signs,(xJ h1).2 c,(J5 h2).1,jy,db,PyProof.Rows.join_one]
abbrev ei:=Ch×Int×Int
def cD(kn:Ξ)(p:List Int):Int:=(kn.idxOf p:Nat)
def aX(kn:Ξ)(st:ei)(z:Str):Option ei:=match Al z "*" with
 |[a,b]=>if(zO b&&decide (ap b∈kn))=true then match gZ a with
   |none=>none
   |some n=>if(decide (cD kn (ap b)<=st.2.1)|| !(decide (st.2.2=-1)|| decide (st.2.2=((ap b).length:Int))))=true then none else some (putC st.1 (ap b) n,cD kn (ap b),((ap b).length:Int))
  else none
 |_=>none
def bG(kn:Ξ):List Str->ei->Option ei
 |[],st=>some st
 |z::r,st=>match aX kn st z with
  |some ah=>bG kn r ah
  |none=>none
def g0(kn:Ξ)(text:Str):Option Ch:=if text="" then some [] else(bG kn (Al text " ") ([],-1,-1)).map (fun s:ei=>s.1)
def J8{kn:Ξ}{st g:ei}{z:Str}(h:aX kn st z=some g):∃c:List Int×Int,z=term c/\ay z=some c/\c.1∈kn/\c.2≠0/\st.2.1<cD kn c.1/\(st.2.2=-1\/st.2.2=(c.1.length:Int))/\g=(putC st.1 c.1 c.2,cD kn c.1,(c.1.length:Int)):=by
 unfold aX at h;split at h
 ·rename_i a b hs
  split at h
  ·rename_i hb
   rw[AB,decide_eq_true_eq] at hb;split at h
   ·cases h
   ·rename_i n hn
    obtain⟨d,w2,f⟩:=Dl.mp hn;split at h
    ·cases h
    ·rename_i hc
     have e:=Ai h;rw[Bool.or_eq_true,Bool.not_eq_true',Bool.or_eq_false_iff,decide_eq_true_eq,decide_eq_false_iff_not,decide_eq_false_iff_not] at hc;refine⟨(ap b,n),?_,?_,hb.2,f,by simp only;omega,by simp only;omega,e.symm⟩
     ·rw[<-w2];exact(J7 hs d hb.1 (w2▸f)).symm
     ·unfold ay
      rw[hs];show(if(zv a&&zO b)=true then some (ap b,zB a) else none)=_;rw[d,hb.1,Bool.and_self,if_pos rfl,w2]
  ·cases h
 ·cases h
def J9{kn:Ξ}{st:ei}{c:List Int×Int}(h:Tm c)(hk:c.1∈kn)(f:c.2≠0)(g:st.2.1<cD kn c.1)(i:st.2.2=-1\/st.2.2=(c.1.length:Int)):aX kn st (term c)=some (putC st.1 c.1 c.2,cD kn c.1,(c.1.length:Int)):=by
 unfold aX;rw[(Dm h).1];obtain⟨a,b,_⟩:=Dj h.2.2.2;obtain⟨d,e⟩:=Di h.1 h.2.1;have hw:gZ (fig c.2)=some c.2:=Dl.mpr ⟨a,b,f⟩;show(if(zO (word c.1)&&decide (ap (word c.1)∈kn))=true then match gZ (fig c.2) with
   |none=>none
   |some n=>if(decide (cD kn (ap (word c.1))<=st.2.1)|| !(decide (st.2.2=-1)|| decide (st.2.2=((ap (word c.1)).length:Int))))=true then none else some (putC st.1 (ap (word c.1)) n,cD kn (ap (word c.1)),((ap (word c.1)).length:Int))
  else none)=_
 rw[d,e,decide_eq_true hk,Bool.and_self,if_pos rfl,hw];show(if _ then none else some (putC st.1 c.1 c.2,cD kn c.1,(c.1.length:Int)))=_;rw[if_neg];rw[Bool.or_eq_true,Bool.not_eq_true',Bool.or_eq_false_iff,decide_eq_true_eq,decide_eq_false_iff_not,decide_eq_false_iff_not];omega
abbrev Rk(kn:Ξ)(a b:List Int×Int):Prop:=cD kn a.1<cD kn b.1
def Dn{kn:Ξ}:∀{ws:List Str}{st a:ei},bG kn ws st=some a->∃ds:Ch,ws=ds.map term/\cU ws st.1=some a.1/\ds.Pairwise (Rk kn)/\(∀d∈ds,d.1∈kn/\d.2≠0/\st.2.1<cD kn d.1/\(st.2.2=-1\/st.2.2=(d.1.length:Int)))/\(∃n:Nat,∀d∈ds,d.1.length=n)/\(∀d∈ds,ay (term d)=some d)
 |[],st,a,h=>by
  have e:=Ai h;subst e;exact⟨[],rfl,rfl,.nil,(by intro d hd;cases hd),⟨0,by intro d hd;cases hd⟩,by intro d hd;cases hd⟩
 |z::r,st,a,h=>by
  have h':(match aX kn st z with|some a=>bG kn r a|none=>none)=some a:=h;cases e:aX kn st z with
  |none=>rw[e] at h';cases h'
  |some s1=>
   rw[e] at h';obtain⟨c,f,hp,g,i,j,ch,rfl⟩:=J8 e;obtain⟨ds,e1,e2,e3,b,⟨n,v⟩,l⟩:=Dn h';refine⟨c::ds,by rw[AE,<-e1,<-f],?_,List.pairwise_cons.mpr ⟨fun d hd=>(b d hd).2.2.1,e3⟩,?_,⟨c.1.length,?_⟩,?_⟩
   ·show(match ay z with|some (p,n)=>cU r (putC st.1 p n)|none=>none)=_
    rw[hp];exact e2
   ·intro d hd
    rcases List.mem_cons.mp hd with rfl|hd
    ·exact⟨g,i,j,ch⟩
    ·obtain⟨o,q,s,u⟩:=b d hd
     simp only at s u;refine⟨o,q,ω,?_⟩;rcases ch with ch|ch
     ·exact .inl ch
     ·exact .inr ω
   ·intro d hd
    rcases List.mem_cons.mp hd with rfl|hd
    ·rfl
    ·have:=(b d hd).2.2.2
     simp only at this;omega
   ·intro d hd
    rcases List.mem_cons.mp hd with rfl|hd
    ·rw[<-f];exact hp
    ·exact l d hd
def Do{kn:Ξ}:∀{ds:Ch}{st:ei},(∀d∈ds,Tm d)->ds.Pairwise (Rk kn)->(∀d∈ds,d.1∈kn/\d.2≠0/\st.2.1<cD kn d.1/\(st.2.2=-1\/st.2.2=(d.1.length:Int)))->(∃n:Nat,∀d∈ds,d.1.length=n)->(bG kn (ds.map term) st).map (fun s:ei=>s.1)=cU (ds.map term) st.1
 |[],st,_,_,_,_=>rfl
 |c::r,st,ht,hp,h,⟨n,hn⟩=>by
  obtain⟨p1,p2⟩:=List.pairwise_cons.mp hp;obtain⟨a,b,e,f⟩:=h c Am;show(match aX kn st (term c) with|some ah=>bG kn (r.map term) ah|none=>none).map (fun s:ei=>s.1)=(match ay (term c) with|some (p,n)=>cU (r.map term) (putC st.1 p n)|none=>none);rw[J9 (ht c Am) a b e f,(Dm (ht c Am)).2];exact Do (st:=(putC st.1 c.1 c.2,cD kn c.1,(c.1.length:Int))) (fun d hd=>ht d (Av _ hd)) p2 (fun d hd=>by
   obtain⟨g,i,_,_⟩:=h d (Av _ hd);exact⟨g,i,p1 d hd,.inr (by rw[hn c Am,hn d (Av _ hd)])⟩) ⟨n,fun d hd=>hn d (Av _ hd)⟩
def Dp:∀{ds acc:Ch},(∀d∈ds,ay (term d)=some d)->(ksC (acc++ds)).Nodup->cU (ds.map term) acc=some (acc++ds)
 |[],acc,_,_=>by rw[List.append_nil];rfl
 |c::r,acc,ht,hn=>by
  show(match ay (term c) with|some (p,n)=>cU (r.map term) (putC acc p n)|none=>none)=_;rw[ht c Am];have a:c.1∉ksC acc:=fun z=>by
   have e:ksC (acc++c::r)=ksC acc++ksC (c::r):=by unfold ksC;rw[At]
   rw[e,List.nodup_append] at hn;exact hn.2.2 c.1 z c.1 (List.mem_map.mpr ⟨c,Am,rfl⟩) rfl
  show cU (r.map term) (putC acc c.1 c.2)=_;rw[IB _ a,show acc++c::r=(acc++[c])++r by simp];exact Dp (fun d hd=>ht d (Av _ hd)) (by rw[List.append_assoc];exact hn)
def Dq{g:Type}{R:g->g->Prop}(as:∀a b,R a b->¬R b a):∀{c d:List g},c.Pairwise R->d.Pairwise R->(∀x,x∈c↔x∈d)->c=d
 |[],[],_,_,_=>rfl
 |[],b::r,_,_,h=>absurd ((h b).mpr Am) (by simp)
 |a::r,[],_,_,h=>absurd ((h a).mp Am) (by simp)
 |a::r,b::t,h1,h2,h=>by
  obtain⟨p1,p2⟩:=List.pairwise_cons.mp h1;obtain⟨f,i⟩:=List.pairwise_cons.mp h2;have e:a=b:=by
   rcases List.mem_cons.mp ((h a).mp Am) with z|z
   ·exact z
   ·rcases List.mem_cons.mp ((h b).mpr Am) with y|y
    ·exact y.symm
    ·exact absurd (f a z) (as _ _ (p1 b y))
  subst e;rw[Dq as p2 i fun x=>⟨fun hx=>?_,fun hx=>?_⟩]
  ·rcases List.mem_cons.mp ((h x).mp (Av _ hx)) with z|z
   ·subst z;exact absurd (p1 x hx) (as _ _ (p1 x hx))
   ·exact z
  ·rcases List.mem_cons.mp ((h x).mpr (Av _ hx)) with z|z
   ·subst z;exact absurd (f x hx) (as _ _ (f x hx))
   ·exact z
def J_{kn:Ξ}(c:kn.Nodup):kn.Pairwise fun a b=>cD kn a<cD kn b:=by
 rw[List.pairwise_iff_getElem];intro i j hi d e;unfold cD;rw[c.idxOf_getElem i hi,c.idxOf_getElem j d];omega
def Dr(a:Ξ)(cs:Ch):(b9 a cs).Pairwise (Rk (canon a)):=by
 have:=(J_ (mG a)).sublist (List.filter_sublist (p:=fun k=>decide (k∈ksC cs)));unfold b9;rw[List.pairwise_map];exact this
def Ds:∀{ws:List Str}{acc cs:Ch},cU ws acc=some cs->(ksC acc).Nodup->(∀c∈acc,Sm c.2)->(ksC cs).Nodup/\∀c∈cs,Sm c.2
 |[],acc,cs,h,hn,hs=>by
  have e:=Ai h;subst e;exact⟨hn,hs⟩
 |z::r,acc,cs,h,hn,hs=>by
  have h':(match ay z with|some (p,n)=>cU r (putC acc p n)|none=>none)=some cs:=h;cases e:ay z with
  |none=>rw[e] at h';cases h'
  |some c=>rw[e] at h';exact Ds h' (C6 hn) (C8 hs (xx e))
def J'{a:Ξ}{cs:Ch}(hw:cG a)(b:(canon a).length<=56)(j:(ksC cs).Nodup)(d:∀c∈cs,Sm c.2)(h':dL (canon a) cs=true):Oc a cs:=by
 unfold dL at h';rw[AB,AB] at h';obtain⟨g,h,e⟩:=h';have i:=of_decide_eq_true g;refine⟨hw,b,j,fun c hc=>i c.1 (List.mem_map.mpr ⟨c,hc,rfl⟩),?_,fun c hc z=>?_,d⟩
 ·have one:=(wV (ci (ksC cs))).mp (by have:=of_decide_eq_true h;omega)
  cases hcs:cs with
  |nil=>exact⟨0,fun c hc=>nomatch hc⟩
  |cons d0 r=>
   refine⟨d0.1.length,fun c hc=>?_⟩;rw[<-hcs] at hc;have e1:(c.1.length:Int)∈ci (ksC cs):=List.mem_map.mpr ⟨c.1,List.mem_map.mpr ⟨c,hc,rfl⟩,rfl⟩;have e2:(d0.1.length:Int)∈ci (ksC cs):=List.mem_map.mpr ⟨d0.1,List.mem_map.mpr ⟨d0,by rw[hcs];exact Am,rfl⟩,rfl⟩;have:=one _ e1 _ e2;omega
 ·rw[List.all_map,List.all_eq_true] at e
  have f:(!decide (V.int c.2=V.int 0))=true:=e c hc;rw[z] at f;exact absurd f ξ
def Ka{e:Ξ}{text:Str}(hw:cG e)(g:(canon e).length<=56):fM e text=g0 (canon e) text:=by
 unfold fM g0
 by_cases he:text=""
 ·rw[if_pos he,if_pos he]
 rw[if_neg he,if_neg he];have back:Txt.join " " (Al text " ")=text:=by
  rw[show Txt.join " " (Al text " ")=Str.join " " (Al text " ") from StrLaws.glued_eq_join _ _,blank];exact StrLaws.join_split _ _
 cases hW:bG (canon e) (Al text " ") ([],-1,-1) with
 |some st=>
  obtain⟨ds,e1,e2,e3,o,⟨n,s⟩,p⟩:=Dn hW;have q:(ksC ds).Nodup:=by
   unfold ksC;rw[List.nodup_iff_pairwise_ne,List.pairwise_map];exact e3.imp fun{a b} h z=>by unfold Rk at h;rw[z] at h;omega
  have r:=Dp (acc:=[]) p (by simpa using q);rw[<-e1] at r;have u:∀c∈ds,Sm c.2:=fun c hc=>xx (p c hc);have i:Oc e ds:=⟨hw,g,q,fun c hc=>(o c hc).1,⟨n,s⟩,fun c hc=>(o c hc).2.1,u⟩;have es:b9 e ds=ds:=Dq (fun a b h z=>by unfold Rk at h z;omega) (Dr e ds) e3 (nr i);have v:be (b9 e ds)=text:=by rw[es];unfold be;rw[<-e1];exact back
  rw[r] at e2 ⊢;have w:ds=st.1:=Ai e2;show(if(dL (canon e) ds&&decide (be (b9 e ds)=text))=true then some ds else none)=some st.1;rw[i.hc,decide_eq_true v,Bool.and_self,if_pos rfl,w]
 |none=>
  cases hr:cU (Al text " ") [] with
  |none=>rfl
  |some cs=>
   show(if(dL (canon e) cs&&decide (be (b9 e cs)=text))=true then some cs else none)=none;split
   ·rename_i hb
    rw[AB,decide_eq_true_eq] at hb
    exfalso
    obtain⟨k1,k2⟩:=Ds hr List.nodup_nil (fun c hc=>nomatch hc);have i:=J' hw g k1 k2 hb.1;have f:=ra i;have j:b9 e cs≠[]:=fun z=>he (by rw[<-hb.2,z];decide +kernel);have l:Al text " "=(b9 e cs).map term:=by rw[<-hb.2];exact CI f.tm j
    have:=Do (st:=([],-1,-1)) f.tm (Dr e cs) (fun d hd=>⟨f.inn d hd,f.nz d hd,by unfold cD;simp only;omega,.inl rfl⟩) f.hi;rw[<-l,hW,hr] at this;cases this
   ·rfl
end K18
end
section
namespace L2
open PySem PySem.Spec PyProof.Rows
def zlx:V->List V->Hp->VK->Prop:=fun x vs H Q=>∃(l a:Addr)(as:List Addr)(b:Ξ)(ps:List Int)(j:Nat),x=.ref l/\vs=[.ref a]/\H l=some (.lst (List.map V.ref as))/\Tps H as b/\Tp H a ps/\b[j]?=some ps/\(∀m q,m<j->b[m]?=some q->q≠ps)/\b.length<=1000/\Q (.int (j:Int)) H
section
variable{X:Cx}
def Dt(hu:X.A.in1.units<cLine):hX X "list.index" zlx:=by
 intro aa s σ H x vs v us Q I i o h;obtain⟨l,a,as,d,ps,j,rfl,rfl,w,ht,C,g,D,G,q⟩:=h;cases i;obtain⟨u,rfl,E⟩:=o.one;cases E;obtain⟨z,J,n,r,L,e⟩:=I.lstM w;obtain rfl:=a_ r;have N:=ht.length;have O:j<d.length:=(List.getElem?_eq_some_iff.mp g).1;have c:∀m(hm:m<(as.map Value.ref).toArray.size) q,d[m]?=some q->iJ H ps ((as.map Value.ref).toArray[m])=decide (q=ps):=fun m hm q hq=>by
  have b:m<as.length:=by simpa using hm
  obtain⟨M,e1,e2⟩:=ht.get (Af b);rw[hq] at e1;cases e1;have:(as.map Value.ref).toArray[m]=.ref as[m]:=by simp
  rw[this];exact vG e2
 have f:(j:Int)<2 ^ 63-1:=by
  have h1:(j:Int)<1000:=ω
  have h2:(1000:Int)<2 ^ 63-1:=ξ
  omega
 refine call_meets F.slot_list_index ⟨_,e,rfl⟩ F.entry_list_index (F.args_list_index_2 _ _)
  (SeqAt.list_indexAt l (as.map Value.ref).toArray n none #[] (.ref a) (iJ H ps) j (by simp;omega) f (by rw[c j _ ps g];exact decide_eq_true rfl) (fun m hm p=>?_)) ⟨e,fun y hy=>yV I C hu ht y (by simpa using hy),⟨.int j,H,I.tok _,⟨_,rfl⟩,q⟩⟩
 have b:m<d.length:=ω
 rw[c m hm _ (Af b)];exact decide_eq_false (D m _ p (Af b))
end
end L2
end
section
namespace K18
open K1 Tx
open PySem L2 STb
abbrev rm:Stmt:=top 59
section
variable{P:Program}{w:World}{K:Ae}{mg:Str->Option Value}{base:Heap}{f:Addr}{fd:FuncData}
def Kb{H2:Hp}{L D:Addr}{ws:List Str}{Q:VK}(h:H2 L=some (.lst (ws.map V.str)))(i:ws.length<=100000)(hw:∀x∈ws,x.length<=100000)(e:H2 D=none)(k:∀a,Same H2 a->a D=some (.lst ((ws.map dW).map cr))->Q (.ref D) a):cF (et K L) (dc 0) bZ (lA xF [] E0 (cu (a' 0) cg)) [none] H2 D Q:=by
 refine zV (xs:=ws.map V.str) (fun j σ ys a=>∃v:Option V,σ=[v]/\Same H2 a/\a D=some (.lst ys)/\ys=((ws.map dW).take j).map cr) ?_ ?_ ?_ ?_
 ·exact⟨none,rfl,Same.new e,al,rfl⟩
 ·rintro j σ ys a ⟨v,rfl,b,c,rfl⟩
  exact SqL.of (b _ _ h)
 ·rintro j σ ys a x hx f hy ⟨v,rfl,b,c,rfl⟩
  rw[Ao] at hx;cases eq:ws[j]? with
  |none=>rw[eq] at hx;cases hx
  |some q=>
   rw[eq] at hx;obtain rfl:=Ai hx;have hq:=Ay eq;have g:(ws.map dW)[j]?=some (dW q):=by rw[Ao,eq];rfl
   refine cx ⟨_,rfl,q,rfl,hw q hq,fun l d=>?_⟩;exact bR (by rw[Ab];exact zb i) f hy (d _ _ c) ⟨_,rfl,(b.trans d).then e,al,by rw[AX g,At];rfl⟩
 ·rintro σ ys a ⟨v,rfl,b,c,rfl⟩
  rw[Ab,AD (by rw[Ab];exact Ag _)] at c;exact k a b c
def Kc{H2:Hp}{L D:Addr}{text:Str}{ws:List Str}{Q:VK}(f:H2 L=some (.lst (ws.map V.str)))(g:ws.length<=100000)(e:H2 D=none)(k:∀a,Same H2 a->a D=some (.lst ((if text="" then [] else ws).map V.str))->Q (.ref D) a):cF (et K L) (dc 0) (jQ (dZ nN (a' 1) (tC (.str "")))) (a' 0) [none,some (.str text)] H2 D Q:=by
 refine zV (xs:=ws.map V.str) (fun j σ ys a=>∃v:Option V,σ=[v,some (.str text)]/\Same H2 a/\a D=some (.lst ys)/\ys=(if text="" then [] else ws.take j).map V.str) ?_ ?_ ?_ ?_
 ·refine⟨none,rfl,Same.new e,al,?_⟩
  split<;>rfl
 ·rintro j σ ys a ⟨v,rfl,b,c,rfl⟩
  exact SqL.of (b _ _ f)
 ·rintro j σ ys a x hx d hy ⟨v,rfl,b,c,rfl⟩
  rw[Ao] at hx;cases eq:ws[j]? with
  |none=>rw[eq] at hx;cases hx
  |some q=>
   rw[eq] at hx;obtain rfl:=Ai hx;refine⟨_,rfl,rfl,_,rfl,?_⟩
   by_cases he:text=""
   ·rw[show(!decide (V.str text=V.str ""))=false by rw[decide_eq_true (by rw[he])];rfl]
    exact aW (gj d hy ⟨_,rfl,b,c,by rw[if_pos he,if_pos he]⟩)
   ·rw[show(!decide (V.str text=V.str ""))=true by rw[decide_eq_false fun z=>he (by injection z)];rfl]
    exact aK ⟨_,rfl,bR (by rw[Ab];exact zb g) d hy c ⟨_,rfl,b.then e,al,by rw[if_neg he,if_neg he,AX eq,At];rfl⟩⟩
 ·rintro σ ys a ⟨v,rfl,b,c,rfl⟩
  rw[Ab,take_all] at c;exact k a b c
def Kd(x:Str):lH .non ((((Al x "-").map dW).map cr))=!zO x:=by
 unfold lH zO;generalize Al x "-"=ws
 induction ws with
 |nil=>rfl
 |cons y r ih=>
  rw[AE,AE,List.any_cons,ih,List.all_cons,Bool.not_and]
  congr 1
  unfold dW;cases okN 2 y<;>rfl
def Ke(x:Str):((((Al x "-").map dW).map cr)).all eA=true:=by
 rw[List.all_map,List.all_eq_true];intro o _;cases o<;>rfl
def Kf{x:Str}(h:zO x=true):((Al x "-").map dW).map cr=(ap x).map V.int:=by
 unfold zO at h;unfold ap;rw[AC,AC];refine AZ fun t ht=>?_;have:=List.all_eq_true.mp h t ht;show cr (dW t)=V.int (valN t);unfold dW;rw[this,if_pos rfl];rfl
def Du{kn:Ξ}:∀{ws:List Str}{z:Str}{st a:ei},bG kn ws st=some a->bG kn (ws++[z]) st=aX kn a z
 |[],z,st,a,h=>by
  have e:=Ai h;subst e;show(match aX kn st z with|some s=>bG kn [] s|none=>none)=_;cases aX kn st z<;>rfl
 |y::r,z,st,a,h=>by
  have h':(match aX kn st y with|some s=>bG kn r s|none=>none)=some a:=h;show(match aX kn st y with|some s=>bG kn (r++[z]) s|none=>none)=_;cases e:aX kn st y with
  |none=>rw[e] at h';cases h'
  |some s1=>rw[e] at h';exact Du h'
def Dv{kn:Ξ}:∀{ws rest:List Str}{z:Str}{st a:ei},bG kn ws st=some a->aX kn a z=none->bG kn (ws++z::rest) st=none
 |[],rest,z,st,a,h,hz=>by
  have e:=Ai h;subst e;show(match aX kn st z with|some s=>bG kn rest s|none=>none)=none;rw[hz]
 |y::r,rest,z,st,a,h,hz=>by
  have h':(match aX kn st y with|some s=>bG kn r s|none=>none)=some a:=h;show(match aX kn st y with|some s=>bG kn (r++z::rest) s|none=>none)=none;cases e:aX kn st y with
  |none=>rfl
  |some s1=>rw[e] at h';exact Dv h' hz
def Kg{kn:Ξ}{st:ei}{z:Str}(h:(Al z "*").length≠2):aX kn st z=none:=by
 unfold aX;split
 ·rename_i e;rw[e] at h;exact absurd rfl h
 ·rfl
def Kh{kn:Ξ}{st:ei}{z a b:Str}(hs:Al z "*"=[a,b]):aX kn st z=if(zO b&&decide (ap b∈kn))=true then match gZ a with
   |none=>none
   |some n=>if(decide (cD kn (ap b)<=st.2.1)|| !(decide (st.2.2=-1)|| decide (st.2.2=((ap b).length:Int))))=true then none else some (putC st.1 (ap b) n,cD kn (ap b),((ap b).length:Int))
  else none:=by
 unfold aX;rw[hs] <;> rfl
def Ki{kn:Ξ}{q:List Int}(h:q∈kn):kn[kn.idxOf q]?=some q:=by
 rw[Af (List.idxOf_lt_length_of_mem h),List.getElem_idxOf]
def Kj{kn:Ξ}(b:kn.Nodup){q p:List Int}{m:Nat}(h:m<kn.idxOf p)(e:kn[m]?=some q):q≠p:=fun z=>by
 obtain⟨hm,a⟩:=List.getElem?_eq_some_iff.mp e;have:=b.idxOf_getElem m hm;rw[a,z] at this;omega
def ro:Sp:=fun vs H Q _=>∃l as kn text,vs=[.ref l,.str text]/\H l=some (.lst (as.map V.ref))/\Tps H as kn/\kn.Nodup/\kn.length<=200/\text.length<=50000/\
 ((∃cs,g0 kn text=some cs/\∀D H',Same H H'->H D=none->H' D=some (.dT (bx cs))->Q (.ref D) H')\/(g0 kn text=none/\∀H',Same H H'->Q .non H'))
abbrev xL:List Str:=["known","text","found","last","high","word","sides","piece"]
def iB:zo xL ["known","text"] (ze rm):=⟨rfl,rfl,rfl,δ,rfl,δ,δ⟩
def Kk(F:Fun K "_law_written" "_law_written" rm f fd)(B:Bt mg)(Cp:Cl P w K mg base aE "_law_point" ["word"] 1 xF)(Cw:Cl P w K mg base aE "_law_weight" ["word"] 1 Dg):FnOk P w K mg base aE 2 f fd ["known","text"] ro:=by
 refine F.ok iB (fun vs H Q E h=>?_) (fun cdv A outer s H vs Q E hr h=>?_)
 ·obtain⟨l,as,kn,text,rfl,_⟩:=h;rfl
 ·obtain⟨l,as,kn,text,rfl,U,ht,cZ,hk,hz,h⟩:=h
  have hu:=hY hr;have aM:=hr.units;refine⟨_,za (zj (i:=2) iB.nd rfl (Or.inl rfl) jW)
   (za (zj (i:=3) iB.nd rfl (Or.inl rfl) (li ln zf))
   (za (zj (i:=4) iB.nd rfl (Or.inl rfl) (li ln zf))
   (za (eu A2 rfl (zG (zw xL ["one","text"] [none,some 1] (zG (zP AK PySem.F.slot_str_split PySem.F.type_str_split jq (pv 1) (af pe_str ao))) (fun O C s₀ H₀ ex=>zr (i:=0) (cW ["one","text"]) rfl (Or.inl rfl))
     (fun O C s₀ H₀ ex=>oh (zl ja (pv 1) pe_str (au _))) (fun O C s₀ H₀ ex=>pv 0) (hfr:=gC (ze rm) δ))) (zr (i:=5) iB.nd rfl (Or.inl rfl))
    (za (zj (i:=6) iB.nd rfl (Or.inl rfl) (zP AK PySem.F.slot_str_split PySem.F.type_str_split jq (pv 5) (af pe_str ao)))
    (za (zI (zl ja (zk zn rfl B.len cv (af (pv 6) ao)) zf (au _)) (zd (zm fQ)) zp)
    (za (zj (i:=7) iB.nd rfl (Or.inl rfl) (zt zZ rfl B.tuple mr (af (zw xL ["part"] [none] (zG (zP AK PySem.F.slot_str_split PySem.F.type_str_split jq (cA zM (pv 6) zf (fun _ _=>rfl)) (af pe_str ao)))
     (fun O C s₀ H₀ ex=>zr (i:=0) (cW ["part"]) rfl (Or.inl rfl)) (fun O C s₀ H₀ ex=>zL) (fun O C s₀ H₀ ex=>zQ Cp hr rfl aw (af (pv 0) ao)) (hfr:=bK δ)) ao)))
    (za (zI (PW.pt (i4 (zl EM fQ (pv 7) (by with_unfolding_all rfl)) (i4 (zl (yW (in1_units aM)) (pv 7) (pv 0) (by with_unfolding_all rfl)) (jF (zl x0 (zQ Cw hr rfl aw (af (cA zM (pv 6) zf (fun _ _=>rfl)) ao)) fQ (au _)))))) (zd (zm fQ)) zp)
    (za (zI (PW.pt (i4 (zl fW (zP AF PySem.F.slot_list_index PySem.F.type_list_index (Dt (in1_units aM)) (pv 0) (af (pv 7) ao)) (pv 3) (au _)) (jF (zl EN (pv 4) (iI (af (li ln zf) (af (zk zn rfl B.len cv (af (pv 7) ao)) ao))) (by with_unfolding_all rfl))))) (zd (zm fQ)) zp)
    (za (zj (i:=3) iB.nd rfl (Or.inl rfl) (zP AF PySem.F.slot_list_index PySem.F.type_list_index (Dt (in1_units aM)) (pv 0) (af (pv 7) ao)))
    (za (zj (i:=4) iB.nd rfl (Or.inl rfl) (zk zn rfl B.len cv (af (pv 7) ao)))
    (zd (jU hu (pv 2) (pv 7) (zQ Cw hr rfl aw (af (cA zM (pv 6) zf (fun _ _=>rfl)) ao)) rfl))))))))))
   (zd (zm (pv 2)))))),?_⟩
  have M:∀{H1:Hp},g0 kn text=none->Same H H1->Q .non H1:=fun hb s1=>by
   rcases h with ⟨cs,b,_⟩|⟨_,k⟩
   ·rw[hb] at b;cases b
   ·exact k _ s1
  have yes:∀{cs:Ch},g0 kn text=some cs->∀D H',Same H H'->H D=none->H' D=some (.dT (bx cs))->Q (.ref D) H':=fun hb=>by
   rcases h with ⟨cs,b,k⟩|⟨b,_⟩
   ·rw[hb] at b;obtain rfl:=Ai b;exact k
   ·rw[hb] at b;cases b
  have hsp:(Al text " ").length<=text.length+1:=by
   have:=rb text 32;rw[show(⟨#[32]⟩:Str)=" " from blank.symm] at this;omega
  have X:∀z∈Al text " ",z.length<=50000:=fun z g=>by
   rw[blank] at g;exact AA (split_len g) hz
  have bw:∀z:Str,z.length<=50000->(Al z "*").length<=60000/\(∀y∈Al z "*",y.length<=50000):=fun z g=>by
   rw[jy];have:=rb z 42;exact⟨ω,fun y hy=>AA (split_len hy) g⟩
  have bd:∀z:Str,z.length<=50000->(Al z "-").length<=60000/\(∀y∈Al z "-",y.length<=50000):=fun z g=>by
   rw[show("-":Str)=⟨#[45]⟩ from dk];have:=rb z 45;exact⟨ω,fun y hy=>AA (split_len hy) g⟩
  refine fun D hD=>⟨_,rfl,_,rfl,_,rfl,rfl,_,_,rfl,rfl,ξ,zb ω,zb ω,fun S0 hS0=>⟨S0,rfl,⟨_,SqL.of al⟩,fun L hL=>zH (Kc al ω hL fun H2 cY hV=>⟨L,rfl,⟨_,SqL.of hV⟩,?_⟩)⟩⟩;have qt:D≠S0:=zg al hS0;have bC:H2 D=some (.dT []):=cY _ _ (by rw[zh qt];exact al);have s2:Same H H2:=((Same.new hD).trans (Same.new hS0)).trans cY;have hL0:H L=none:=((Same.new hD).trans (Same.new hS0)).free hL;have qG:D≠L:=dF bC hV (by intro z;cases z);generalize iT:(if text="" then [] else Al text " ")=us at hV;have uG:∀z∈us,z.length<=50000:=fun z g=>by
   rw[<-iT] at g;split at g
   ·cases g
   ·exact X z g
  have hun:us.length<=60000:=by
   rw[<-iT];split
   ·simp
   ·omega
  have Y:g0 kn text=(bG kn us ([],-1,-1)).map (fun s:ei=>s.1):=by
   unfold g0;rw[<-iT]
   by_cases he:text=""
   ·rw[if_pos he,if_pos he];rfl
   ·rw[if_neg he,if_neg he]
  refine gQ (K:=K) (a:=L) (xs:=us.map V.str) (fun i σ v=>∃(v5 v6 v7:Option V)(cs:Ch)(p d:Int),σ=[some (.ref l),some (.str text),some (.ref D),some (.int p),some (.int d),v5,v6,v7]/\Same H v/\v L=some (.lst (us.map V.str))/\v D=some (.dT (bx cs))/\bG kn (us.take i) ([],-1,-1)=some (cs,p,d)/\cs.length<=i)
   ⟨none,none,none,[],-1,-1,rfl,s2,hV,bC,rfl,Ag _⟩ (fun i σ v _ ⟨_,_,_,_,_,_,_,_,h,_⟩=>SqL.of h) ?_ ?_
  ·rintro i x σ v hx ⟨v5,v6,v7,cs,p,d,rfl,aB,oW,ai,W,hcl⟩
   rw[Ao] at hx;obtain⟨z,G⟩:∃z,us[i]?=some z:=by
    cases G:us[i]? with
    |none=>rw[G] at hx;cases hx
    |some z=>exact⟨z,rfl⟩
   rw[G] at hx;obtain rfl:=Ai hx;have eG:=Ay G;have ku:=uG z eG;have hi:i<us.length:=(List.getElem?_eq_some_iff.mp G).1;obtain⟨b1,b2⟩:=bw z ku;have stop:aX kn (cs,p,d) z=none->g0 kn text=none:=fun hp=>by
    have hd:us.drop i=z::us.drop (i+1):=by rw[List.drop_eq_getElem_cons hi,(List.getElem?_eq_some_iff.mp G).2]
    have e:bG kn (us.take i++z::us.drop (i+1)) ([],-1,-1)=none:=Dv W hp;rw[<-hd,List.take_append_drop] at e;rw[Y,e];rfl
   refine⟨_,rfl,rfl,_,_,rfl,rfl,ξ,zb ω,zb ω,fun S hS=>⟨_,rfl,S,_,rfl,.inl (SqL.of al),rfl,_,rfl,?_⟩⟩;rw[Ab];have sS:=aB.trans (Same.new (o:=.lst ((Al z "*").map V.str)) hS)
   by_cases h2:(Al z "*").length=2
   rotate_left
   ·rw[show(!decide (V.int ((Al z "*").length:Int)=V.int 2))=true by rw[decide_eq_false (fun y=>h2 (by injection y with y;omega))];rfl]
    exact aK (M (stop (Kg h2)) sS)
   ·rw[show(!decide (V.int ((Al z "*").length:Int)=V.int 2))=false by rw[h2];rfl]
    obtain⟨a,b,hs⟩:∃a b,Al z "*"=[a,b]:=by
     match Al z "*",h2 with
     |[a,b],_=>exact⟨a,b,rfl⟩
    have c:=Kh (kn:=kn) (st:=(cs,p,d)) hs;have vm:a.length<=50000:=b2 a (by rw[hs];simp);have pz:b.length<=50000:=b2 b (by rw[hs];simp);obtain⟨d1,d2⟩:=bd b pz;have lr:upd v S (.lst ((Al z "*").map V.str)) S=some (.lst [.str a,.str b]):=by rw[al,hs];rfl
    have cC:=(Same.new (o:=.lst ((Al z "*").map V.str)) hS) _ _ ai;have iy:=(Same.new (o:=.lst ((Al z "*").map V.str)) hS) _ _ oW;generalize upd v S (.lst ((Al z "*").map V.str))=H4 at *;refine aW ⟨_,rfl,S,_,_,_,rfl,rfl,SqL.of lr,zC (j:=1) rfl,rfl,_,_,rfl,rfl,ξ,zb ω,zb ω,fun S2 gW=>⟨S2,rfl,⟨_,SqL.of al⟩,fun D2 lM=>zH (Kb al ω (fun x hx=>AA (d2 x hx) ξ) lM fun H5 cL dv=>⟨D2,_,rfl,.inl ⟨SqL.of dv,fun T hT=>?_⟩⟩)⟩⟩;have s6:Same H4 (upd H5 T (.tup (((Al b "-").map dW).map cr))):=((Same.new gW).trans cL).trans (Same.new hT);have jX:upd H5 T (.tup (((Al b "-").map dW).map cr)) T=some (.tup (((Al b "-").map dW).map cr)):=al;generalize upd H5 T (.tup (((Al b "-").map dW).map cr))=H6 at s6 jX ⊢;have N:=sS.trans s6;refine⟨_,rfl,T,_,rfl,.inr (SqT.of jX),rfl,Ke b,_,rfl,?_⟩;rw[if_neg ξ,Kd];cases hwo:zO b with
    |false=>
     rw[hwo,A9,if_neg ξ] at c;exact aK (aK (M (stop c) N))
    |true=>
     rw[Kf hwo] at jX;have jK:Tp H6 T (ap b):=jX;rw[hwo,Bool.true_and] at c;refine aW ⟨_,rfl,_,rfl,T,l,_,as,kn,rfl,rfl,jK,SqL.of (N _ _ U),N.tps ht,_,rfl,?_⟩;rw[if_pos rfl]
     by_cases J:ap b∈kn
     rotate_left
     ·rw[decide_eq_false J] at c ⊢
      rw[if_neg ξ] at c;exact aK (aK (M (stop c) N))
     rw[decide_eq_true J] at c ⊢;rw[if_pos rfl] at c;refine aW ⟨_,rfl,S,_,_,_,rfl,rfl,SqL.of (s6 _ _ lr),zC (j:=0) rfl,a,rfl,ω,fun H7 gG=>⟨rfl,_,rfl,?_⟩⟩;cases c8:gZ a with
     |none=>
      rw[c8] at c;exact aK (M (stop c) (N.trans gG))
     |some n=>
      rw[c8] at c;have Z:=N.trans gG;have f_:=gG.tp jK;have ej:=Ki J;have ef:∀m q,m<kn.idxOf (ap b)->kn[m]?=some q->q≠ap b:=fun m q hm e=>Kj cZ hm e;have I:aX kn (cs,p,d) z=if(decide (cD kn (ap b)<=p)|| !(decide (d=-1)|| decide (d=((ap b).length:Int))))=true then none else some (putC cs (ap b) n,cD kn (ap b),((ap b).length:Int)):=c;rw[show decide (cr (some n)=V.non)=false from rfl];refine aW ⟨_,rfl,.inl ⟨rfl,_,SqL.of (Z _ _ U)⟩,_,rfl,l,T,as,kn,ap b,kn.idxOf (ap b),rfl,rfl,Z _ _ U,Z.tps ht,f_,ej,ef,ω,_,rfl,_,_,rfl,rfl,_,rfl,?_⟩
      by_cases u:cD kn (ap b)<=p
      ·have r:((kn.idxOf (ap b):Nat):Int)<=p:=u
       rw[decide_eq_true u,Bool.true_or,if_pos rfl] at I;rw[decide_eq_true r];exact aK (aK (M (stop I) Z))
      have r:¬((kn.idxOf (ap b):Nat):Int)<=p:=u;rw[decide_eq_false u,Bool.false_or] at I;rw[decide_eq_false r];refine aW ⟨_,rfl,_,rfl,_,rfl,T,_,rfl,.inr (SqT.of f_),zb (by simp),fun T2 dI=>⟨T2,_,rfl,.inr (SqT.of al),rfl,rfl,_,rfl,?_⟩⟩;have s8:=Same.new (o:=.tup [.int (-1),.int ((ap b).map V.int).length]) dI;have sC:=Z.trans s8;rw[if_pos rfl,show lH (.int d) [V.int (-1),V.int (((ap b).map V.int).length:Nat)]=(decide (d=-1)|| decide (d=((ap b).length:Int))) from by
       rw[Ab];show((-1:Int)==d|| (((ap b).length:Int)==d|| false))=_;rw[Bool.or_false,Bool.eq_iff_iff];simp only[Bool.or_eq_true,beq_iff_eq,decide_eq_true_eq];omega]
      cases hhi:(decide (d=-1)|| decide (d=((ap b).length:Int))) with
      |false=>
       rw[hhi,Bool.not_false,if_pos rfl] at I;exact aK (M (stop I) sC)
      |true=>
       rw[hhi,Bool.not_true,if_neg ξ] at I;have gi:=s8.tp f_;generalize upd H7 T2 (.tup [.int (-1),.int ((ap b).map V.int).length])=H8 at *;refine aW ⟨_,rfl,.inl ⟨rfl,_,SqL.of (sC _ _ U)⟩,_,rfl,l,T,as,kn,ap b,kn.idxOf (ap b),rfl,rfl,sC _ _ U,sC.tps ht,gi,ej,ef,ω,_,rfl,T,_,rfl,.inr (SqT.of gi),?_⟩;have oN:=(s6.trans gG).trans s8;refine⟨_,rfl,S,_,_,_,rfl,rfl,SqL.of (oN _ _ lr),zC (j:=0) rfl,a,rfl,ω,fun H9 mP=>⟨_,rfl,_,rfl,?_⟩⟩;rw[c8];have oo:=oN.trans mP;have tP:=oo _ _ cC;refine⟨D,_,rfl,DPut.t (k:=(ap b).map Sum.inl) tP (p8 (mP.tp gi)) (by rw[mM];exact zK ω),⟨_,_,_,putC cs (ap b) n,cD kn (ap b),((ap b).length:Int),by rw[Ab];rfl,(sC.trans mP).then hD,?_,?_,?_,?_⟩⟩
       ·rw[zh (Ne.symm qG)];exact oo _ _ iy
       ·rw[al,show cr (some n)=V.int n from rfl,dj]
       ·rw[AX G,Du W,I]
       ·exact AA C7 ω
  ·rintro σ v ⟨v5,v6,v7,cs,p,d,rfl,aB,oW,ai,W,hcl⟩
   rw[Ab,take_all] at W;exact⟨_,rfl,yes (by rw[Y,W];rfl) D v aB hD ai⟩
end
end K18
end
section
namespace Tx
open PySem PySem.Builtin.Str PyProof.Rows PySem.NumText
abbrev sg(x:Str):List Nat:=x.cps.toList
abbrev bl(x:Str):Nat:=(sg x).count 32
def nB{x:Str}{i:Int}(h:0<=i/\i<=(x.length:Int)):sg (Txt.slice x none (some i))=(sg x).take i.toNat:=by
 rw[show Txt.slice x none (some i)=⟨((x.cps.toList.drop 0).take (i-0).toNat).toArray⟩ from StrLaws.sliceText_to ⟨h.1,by rw[Au];exact h.2⟩];show List.take _ (List.drop 0 _)=_;rw[List.drop_zero,Int.sub_zero]
def nC{x:Str}{i:Int}(h:0<=i):sg (Txt.slice x (some i) none)=(sg x).drop i.toNat:=by
 have a:x.cps.toList.length=x.length:=Au
 by_cases hi:i<=(x.length:Int)
 ·rw[slice_from_eq (i:=i) (b:=x.length) h hi rfl]
  show List.take _ (List.drop _ _)=_;refine AD ?_;rw[List.length_drop,a];omega
 ·rw[slice_beyond (by omega:(x.length:Int)<=i)]
  have:(sg x).drop i.toNat=[]:=List.drop_eq_nil_of_le (by show x.cps.toList.length<=_;rw[a];omega);rw[this];rfl
def iC(x y:Str):sg (x++y)=sg x++sg y:=by
 show(x.cps++y.cps).toList=_;exact Array.toList_append
def eT(x:Str):(sg x).length=x.length:=Au
def kW(x y:Str):Prop:=y.length<=2*x.length+2/\bl y<=bl x+1
def Kl(c:Nat):[c].count 32<=1:=by
 have:=List.count_le_length (a:=32) (l:=[c])
 simpa using this
def Dw(l:List Nat)(i j:Nat)(h:i<=j):(l.take i).count 32+(l.drop j).count 32<=l.count 32/\(l.take i).length+(l.drop j).length<=l.length:=by
 have e:(l.drop j)=(l.drop i).drop (j-i):=by rw[List.drop_drop];congr 1;omega
 have h1:((l.drop i).drop (j-i)).Sublist (l.drop i):=List.drop_sublist _ _;have h2:=h1.count_le 32;have a:=h1.length_le;rw[e];have h4:l.count 32=(l.take i).count 32+(l.drop i).count 32:=by rw[<-List.count_append,List.take_append_drop]
 have b:l.length=(l.take i).length+(l.drop i).length:=by rw[<-Aq,List.take_append_drop]
 omega
def Km{x:Str}{i:Int}(h:0<=i/\i<=(x.length:Int)):kW x (Txt.slice x none (some i)++Txt.slice x (some (i+1)) none):=by
 obtain⟨a,b⟩:=Dw (sg x) i.toNat (i+1).toNat ω;refine⟨?_,?_⟩
 ·rw[<-eT,<-eT x,iC,nB h,nC ω,Aq];omega
 ·show(sg _).count 32<=_
  rw[iC,nB h,nC ω,List.count_append];show _<=(sg x).count 32+1;omega
def Dx{x:Str}{i j:Int}{c:Nat}(h:0<=i/\i<=(x.length:Int))(d:i<=j):kW x (Txt.slice x none (some i)++⟨#[c]⟩++Txt.slice x (some j) none):=by
 obtain⟨a,b⟩:=Dw (sg x) i.toNat j.toNat ω;have e:sg (⟨#[c]⟩:Str)=[c]:=rfl;refine⟨?_,?_⟩
 ·rw[<-eT,<-eT x,iC,iC,nB h,nC ω,Aq,Aq,e,List.length_singleton];omega
 ·show(sg _).count 32<=_
  have:=Kl c;rw[iC,iC,nB h,nC ω,List.count_append,List.count_append,e];show _<=(sg x).count 32+1;omega
def rp(x:Str):(Al x " ").length=bl x+1:=by
 rw[show(" ":Str)=⟨#[32]⟩ from δ];exact xr x 32
def bl_join{ws:List Str}(h:∀t∈ws,32∉sg t):bl (Txt.join " " ws)+1=ws.length\/(ws=[]/\bl (Txt.join " " ws)=0):=by
 by_cases a:ws=[]
 ·right
  subst a;exact⟨rfl,δ⟩
 ·left
  rw[show Txt.join " " ws=Str.join " " ws from StrLaws.glued_eq_join _ _,show(" ":Str)=⟨#[32]⟩ from δ];exact xq a h
def zeq{x t:Str}(h:t∈Al x " "):32∉sg t:=by
 rw[show(" ":Str)=⟨#[32]⟩ from δ] at h;exact StrLaws.split_free _ _ t h
def Dy(x:Str):bb (Al x " ")+(Al x " ").length=x.length+1:=by
 rw[show(" ":Str)=⟨#[32]⟩ from δ];exact rb x 32
def Kn{x:Str}{ws:List Str}(hx:x.length<=20000)(hm:∀t∈ws,t∈Al x " ")(d:ws.length<=(Al x " ").length+1)(hs:bb ws<=bb (Al x " ")+x.length):JoinOk " " ws=true/\kW x (Txt.join " " ws):=by
 have e:=Dy x;obtain⟨a,b⟩:=JO (sep:=" ") (ws:=ws) rfl ω;refine⟨a,ω,?_⟩;have c:=rp x;rcases bl_join (fun t ht=>zeq (hm t ht)) with z|⟨_,z⟩<;>omega
def rq(a b:List Str):bb (a++b)=bb a+bb b:=by unfold bb;rw[At,List.sum_append]
def Dz(t:Str)(b:List Str):bb (t::b)=t.length+bb b:=by unfold bb;rw[AE,List.sum_cons]
def DA(ws:List Str)(k:Nat)(t:Str)(h:ws[k]?=some t):bb (ws.eraseIdx k)+t.length=bb ws/\(ws.eraseIdx k).length+1=ws.length:=by
 have hk:k<ws.length:=(List.getElem?_eq_some_iff.mp h).1;have e:ws=ws.take k++t::ws.drop (k+1):=by
  rw[<-(List.getElem?_eq_some_iff.mp h).2,<-List.drop_eq_getElem_cons hk,List.take_append_drop]
 rw[List.eraseIdx_eq_take_drop_succ];have h1:bb ws=bb (ws.take k)+(t.length+bb (ws.drop (k+1))):=by
  have:=congrArg bb e;rw[rq,Dz] at this;exact this
 have h2:ws.length=(ws.take k).length+((ws.drop (k+1)).length+1):=by
  have:=congrArg List.length e;rw[Aq,Ap] at this;exact this
 rw[rq,Aq];omega
def DB(ws:List Str)(i:Nat)(t:Str):bb (ws.take i++t::ws.drop i)=bb ws+t.length/\(ws.take i++t::ws.drop i).length=ws.length+1:=by
 have h1:bb ws=bb (ws.take i)+bb (ws.drop i):=by rw[<-rq,List.take_append_drop]
 have h2:ws.length=(ws.take i).length+(ws.drop i).length:=by rw[<-Aq,List.take_append_drop]
 rw[rq,Dz,Aq,Ap];omega
end Tx
end
section
namespace K18
open K1 Tx
open PySem L2 STb
abbrev dA:Stmt:=top 60
def DC(ws:List Str)(k:Nat):(ws.map V.str).eraseIdx k=(ws.eraseIdx k).map V.str:=by
 rw[List.eraseIdx_eq_take_drop_succ,List.eraseIdx_eq_take_drop_succ,At,List.map_take,List.map_drop]
def DD(ws:List Str)(i:Nat)(t:Str):(ws.map V.str).take i++V.str t::(ws.map V.str).drop i=(ws.take i++t::ws.drop i).map V.str:=by
 rw[At,AE,List.map_take,List.map_drop]
def rv{ws:List Str}{i:Int}(a:0<=i)(h1:i<(ws.length:Int)):∃t,ws[i.toNat]?=some t/\t∈ws/\ee (ws.map V.str) i=some (V.str t)/\seqIndex? i (ws.map V.str).length=some i.toNat/\(ws.map V.str)[i.toNat]?=some (V.str t):=by
 have hi:i.toNat<ws.length:=ω
 have e:=Af hi;have e2:(ws.map V.str)[i.toNat]?=some (V.str ws[i.toNat]):=by rw[Ao,e];rfl
 refine⟨_,e,List.getElem_mem hi,?_,?_,e2⟩
 ·have:=zC e2
  rwa [show((i.toNat:Nat):Int)=i from ω] at this
 ·exact seqIndex_of a (by rw[Ab];exact h1)
structure Tw(H H':Hp)(p S:Addr)(ws:List Str):Prop where
 h0:H S=none
 hS:H' S=some (.lst (ws.map V.str))
 sb:zy p H H'
 hb:zD H' p
 ne:S≠p
def Tw.put{H H':Hp}{p S:Addr}{ws us:List Str}(h:Tw H H' p S ws):Tw H (upd H' S (.lst (us.map V.str))) p S us:=⟨h.h0,al,h.sb.then h.h0,h.hb.upd h.ne,h.ne⟩
def Tw.take{H H' H2:Hp}{p S:Addr}{ws:List Str}(h:Tw H H' p S ws)(a:zy p H' H2)(hb:zD H2 p):Tw H H2 p S ws:=⟨h.h0,a _ _ h.ne h.hS,h.sb.trans a,hb,h.ne⟩
def Wd(text:Str)(ws:List Str):Prop:=(∀t∈ws,t∈Al text " ")/\ws.length<=(Al text " ").length+1/\bb ws<=bb (Al text " ")+text.length
section
variable{P:Program}{w:World}{K:Ae}{mg:Str->Option Value}{base:Heap}{f:Addr}{fd:FuncData}
def DE:Sp:=fun vs H Q _=>∃p text,vs=[.ref p,.str text]/\zD H p/\text.length<=20000/\∀t H',kW text t->zy p H H'->zD H' p->Q (.str t) H'
abbrev rx:List Str:=["box","text","way","at","sign","words","place"]
def kY:zo rx ["box","text"] (ze dA):=⟨rfl,rfl,rfl,δ,rfl,δ,δ⟩
def Ko(F:Fun K "_law_changed" "_law_changed" dA f fd)(B:Bt mg)(O:Cl P w K mg base aE "_law_take" ["box","most"] 1 iR):FnOk P w K mg base aE 2 f fd ["box","text"] DE:=by
 refine F.ok kY (fun vs H Q E h=>?_) (fun cdv A outer s H vs Q E hr h=>?_)
 ·obtain⟨p,text,rfl,_⟩:=h;rfl
 ·obtain⟨p,text,rfl,fE,hz,k⟩:=h
  have hsp:(Al text " ").length<=text.length+1:=by have:=Dy text;omega
  have R10:∃D,PSs (aZ aE P w K mg base rx "_law_changed" (ze dA) f cdv A outer s H E).nox (List.drop 10 (zE dA)) D/\
    ∀(S:Addr)(ws:List Str)(d place:Int)(l o:Option V)(H2:Hp),Tw H H2 p S ws->Wd text ws->(d=7->ws=Al text " ")->0<=place->place<((Al text " ").length:Int)->
     D {nx:=fun _ H'=>Q .non H',rt:=Q} [some (.ref p),some (.str text),some (.int d),l,o,some (.ref S),some (.int place)] H2:=by
   refine⟨_,za (zI (zl d_ (pv 2) zf (au _)) (zd (zR (zP AF PySem.F.slot_list_insert PySem.F.type_list_insert vS (pv 5) (af (pv 6) (af (cA zM (pv 5) (pv 6) (fun _ _=>rfl)) ao))))) zp)
    (zd (zm (zP AK PySem.F.slot_str_join PySem.F.type_str_join ju pe_str (af (pv 5) ao)))),?_⟩
   intro S ws d place l o H2 g L T r p1;have fin:∀(us:List Str)(C:Hp),Tw H C p S us->Wd text us->Q (.str (Txt.join " " us)) C/\JoinOk " " us=true:=fun us C v hu=>by
    obtain⟨a,b⟩:=Kn hz hu.1 hu.2.1 hu.2.2;exact⟨k _ _ b v.sb v.hb,a⟩
   refine⟨_,rfl,rfl,_,rfl,bv (fun e=>?_) fun e=>?_⟩
   ·have e7:d=7:=by have:=of_decide_eq_true e;injection this
    have G:=T e7;subst G;obtain⟨t,U,mt,ia,_,_⟩:=rv r p1;refine⟨_,rfl,.inl ⟨rfl,_,SqL.of g.hS⟩,_,rfl,_,rfl,_,rfl,S,_,_,_,rfl,rfl,SqL.of g.hS,ia,S,_,_,_,rfl,rfl,g.hS,r,by rw[Ab];omega,by rw[Ab];exact zK ω,?_⟩;rw[DD];have v:=g.put (us:=(Al text " ").take place.toNat++t::(Al text " ").drop place.toNat);obtain⟨Y,s2⟩:=DB (Al text " ") place.toNat t;have vH:t.length<=text.length:=by
     have e2:=mt;rw[show(" ":Str)=⟨#[32]⟩ from blank] at e2;exact split_len e2
    obtain⟨q,j⟩:=fin _ _ v ⟨fun u hu=>by
     rcases List.mem_append.mp hu with z|z
     ·exact List.mem_of_mem_take z
     ·rcases List.mem_cons.mp z with z|z
      ·rw[z];exact mt
      ·exact List.mem_of_mem_drop z,ω,ω⟩
    exact⟨rfl,_,rfl,_,S,_,rfl,rfl,SqL.of v.hS,j,q⟩
   ·obtain⟨q,j⟩:=fin _ _ g L
    exact⟨rfl,_,rfl,_,S,_,rfl,rfl,SqL.of g.hS,j,q⟩
  obtain⟨rK,jC,dO⟩:=R10;have R9:∃D,PSs (aZ aE P w K mg base rx "_law_changed" (ze dA) f cdv A outer s H E).nox (List.drop 9 (zE dA)) D/\
    ∀(S:Addr)(ws:List Str)(d place:Int)(l o:Option V)(H2:Hp),Tw H H2 p S ws->Wd text ws->(d=7\/d=6->ws=Al text " ")->0<=place->place<((Al text " ").length:Int)->
     D {nx:=fun _ H'=>Q .non H',rt:=Q} [some (.ref p),some (.str text),some (.int d),l,o,some (.ref S),some (.int place)] H2:=by
   refine⟨_,za (zI (zl d_ (pv 2) zf (au _)) (zd (zR (zP AF PySem.F.slot_list_pop PySem.F.type_list_pop yo (pv 5) (af (pv 6) ao)))) zp) jC,?_⟩;intro S ws d place l o H2 g L T r p1;refine⟨_,rfl,rfl,_,rfl,bv (fun e=>?_) fun e=>dO S ws d place l o H2 g L (fun z=>T (.inl z)) r p1⟩;have e6:d=6:=by have:=of_decide_eq_true e;injection this
   have G:=T (.inr e6);subst G;obtain⟨t,U,mt,ia,ib,ic⟩:=rv r p1;refine⟨_,rfl,.inl ⟨rfl,_,SqL.of g.hS⟩,_,rfl,S,_,_,place.toNat,_,rfl,rfl,g.hS,ω,ω,ib,ic,?_⟩;rw[DC];obtain⟨Y,s2⟩:=DA (Al text " ") place.toNat t U;exact dO S _ d place l o _ g.put ⟨fun u hu=>List.mem_of_mem_eraseIdx hu,ω,ω⟩ (fun z=>ω) r p1
  obtain⟨wm,lq,fL⟩:=R9;have R8:∃D,PSs (aZ aE P w K mg base rx "_law_changed" (ze dA) f cdv A outer s H E).nox (List.drop 8 (zE dA)) D/\
    ∀(S:Addr)(d place:Int)(l o:Option V)(H2:Hp),Tw H H2 p S (Al text " ")->0<=place->place<((Al text " ").length:Int)->
     D {nx:=fun _ H'=>Q .non H',rt:=Q} [some (.ref p),some (.str text),some (.int d),l,o,some (.ref S),some (.int place)] H2:=by
   refine⟨_,za (zI (zl d_ (pv 2) zf (au _)) (zd (zR (zP AF PySem.F.slot_list_insert PySem.F.type_list_insert vS (pv 5)
    (af (zQ O hr rfl aw (af (pv 0) (af (zk zn rfl B.len cv (af (pv 5) ao)) ao))) (af (zP AF PySem.F.slot_list_pop PySem.F.type_list_pop yo (pv 5) (af (pv 6) ao)) ao))))) zp) lq,?_⟩
   intro S d place l o H2 g r p1;have L:Wd text (Al text " "):=⟨fun _ h=>h,ω,ω⟩;refine⟨_,rfl,rfl,_,rfl,bv (fun e=>?_) fun e=>fL S _ d place l o H2 g L (fun _=>rfl) r p1⟩;have e5:d=5:=by have:=of_decide_eq_true e;injection this
   obtain⟨t,U,mt,ia,ib,ic⟩:=rv r p1;refine⟨_,rfl,.inl ⟨rfl,_,SqL.of g.hS⟩,_,rfl,_,rfl,S,_,rfl,.inl (SqL.of g.hS),p,_,rfl,g.hb,by rw[Ab];omega,by rw[Ab];omega,fun i C i0 i1 X M=>?_⟩;rw[Ab] at i1;have v:=g.take X M;refine⟨_,rfl,.inl ⟨rfl,_,SqL.of v.hS⟩,_,rfl,S,_,_,place.toNat,_,rfl,rfl,v.hS,ω,ω,ib,ic,?_⟩;rw[DC];obtain⟨Y,s2⟩:=DA (Al text " ") place.toNat t U;have t4:=v.put (us:=(Al text " ").eraseIdx place.toNat);refine⟨S,_,_,_,rfl,rfl,t4.hS,i0,by rw[Ab];omega,by rw[Ab];exact zK ω,?_⟩;rw[DD];obtain⟨s3,s4⟩:=DB ((Al text " ").eraseIdx place.toNat) i.toNat t;exact fL S _ d place l o _ t4.put ⟨fun u hu=>by
     rcases List.mem_append.mp hu with z|z
     ·exact List.mem_of_mem_eraseIdx (List.mem_of_mem_take z)
     ·rcases List.mem_cons.mp z with z|z
      ·rw[z];exact mt
      ·exact List.mem_of_mem_eraseIdx (List.mem_of_mem_drop z),ω,ω⟩ (fun z=>ω) r p1
  obtain⟨uK,gb,dX⟩:=R8;refine⟨_,za (zj (i:=2) kY.nd rfl (Or.inl rfl) (zQ O hr rfl aw (af (pv 0) (af zf ao))))
   (za (zj (i:=3) kY.nd rfl (Or.inl rfl) (zQ O hr rfl aw (af (pv 0) (af (zq ey (zk zY rfl B.len cv (af (pv 1) ao)) zf) ao))))
   (za (zj (i:=4) kY.nd rfl (Or.inl rfl) (cA nZ pe_str (zQ O hr rfl aw (af (pv 0) (af zf ao))) (fun _ _=>rfl)))
   (za (zj (i:=5) kY.nd rfl (Or.inl rfl) (zP AK PySem.F.slot_str_split PySem.F.type_str_split jq (pv 1) (af pe_str ao)))
   (za (zj (i:=6) kY.nd rfl (Or.inl rfl) (zQ O hr rfl aw (af (pv 0) (af (zk zn rfl B.len cv (af (pv 5) ao)) ao))))
   (za (zI (zl jb (pv 2) zf (au _)) (zd (zm (zq zi (z0 iz (pv 1) fX (ge (pv 3))) (z0 iz (pv 1) (ge (zq ey (pv 3) zf)) fX)))) zp)
   (za (zI (zl jb (pv 2) zf (au _)) (zd (zm (zq zi (zq zi (z0 iz (pv 1) fX (ge (pv 3))) (pv 4)) (z0 iz (pv 1) (ge (pv 3)) fX)))) zp)
   (za (zI (zl d_ (pv 2) zf (au _)) (zd (zm (zq zi (zq zi (z0 iz (pv 1) fX (ge (pv 3))) (pv 4)) (z0 iz (pv 1) (ge (zq ey (pv 3) zf)) fX)))) zp)
   gb))))))),?_⟩
  refine⟨_,rfl,p,8,rfl,fE,ξ,ξ,fun d H1 w0 w1 cX c5=>?_⟩;refine⟨_,rfl,_,rfl,_,rfl,zb ω,_,_,rfl,rfl,p,_,rfl,c5,ω,ω,fun I H2 a0 a1 du bz=>?_⟩;refine⟨_,rfl,p,16,rfl,bz,ξ,ξ,fun sn C s0 Y X M=>?_⟩;obtain⟨c,ec⟩:∃c,("0123456789 -*+\na":Str).cps.toList[sn.toNat]?=some c:=by
   have hl:("0123456789 -*+\na":Str).cps.toList.length=16:=δ
   exact⟨_,Af (by rw[hl];omega)⟩
  have nI:=zC ec;rw[show((sn.toNat:Nat):Int)=sn from ω] at nI;refine⟨_,_,c,rfl,rfl,zb δ,nI,?_⟩;refine⟨_,rfl,rfl,_,_,rfl,rfl,ξ,zb ω,zb ω,fun S Z=>?_⟩;have bD:zy p C (upd C S (.lst ((Al text " ").map V.str))):=zy.of (Same.new Z);have nU:S≠p:=fun z=>by obtain⟨x,y,e,_⟩:=M;rw[<-z,Z] at e;cases e
  have N:zD (upd C S (.lst ((Al text " ").map V.str))) p:=M.upd nU;have eQ:=(cX.trans du).trans X;have g:Tw H (upd C S (.lst ((Al text " ").map V.str))) p S (Al text " "):=⟨eQ.free fE M Z,al,eQ.trans bD,N,nU⟩;have hne:1<=(Al text " ").length:=List.length_pos_iff.mpr (kF _ _);refine⟨_,rfl,_,rfl,S,_,rfl,.inl (SqL.of al),p,_,rfl,N,by rw[Ab];omega,by rw[Ab];omega,fun place H5 r p1 b0 c6=>?_⟩;rw[Ab] at p1;have t5:=g.take b0 c6;have l1:(⟨#[c]⟩:Str).length=1:=rfl;have done:∀t,kW text t->Q (.str t) H5:=fun t ht=>k t H5 ht t5.sb t5.hb;have W:0<=I/\I<=(text.length:Int):=⟨a0,ω⟩;have l2:(Txt.slice text none (some I)).length<=text.length:=by rw[<-eT,<-eT text,nB W];exact List.length_take_le' _ _
  have l3:∀i:Int,0<=i->(Txt.slice text (some i) none).length<=text.length:=fun i hi=>by rw[<-eT,<-eT text,nC hi,List.length_drop];omega
  have l4:(Txt.slice text none (some I)++(⟨#[c]⟩:Str)).length<=text.length+1:=by
   rw[<-eT,iC,Aq,eT,eT];omega
  have l5:=l3 I a0;have l6:=l3 (I+1) ω;have J:text.length<=sizeLine:=zb ω;refine⟨_,rfl,_,_,rfl,rfl,_,rfl,bv (fun e=>?_) fun e=>⟨_,rfl,_,_,rfl,rfl,_,rfl,bv (fun e=>?_) fun e=>⟨_,rfl,rfl,_,rfl,bv (fun e=>?_) fun e=>dX S d place _ _ H5 t5 r p1⟩⟩⟩
  ·exact⟨_,rfl,_,rfl,_,rfl,_,rfl,J,_,rfl,_,rfl,_,_,rfl,rfl,_,rfl,_,rfl,J,_,_,rfl,rfl,zb ω,done _ (Km W)⟩
  ·exact⟨_,rfl,_,rfl,_,rfl,_,rfl,J,_,rfl,_,_,rfl,rfl,zb ω,_,rfl,_,rfl,_,rfl,_,rfl,J,_,_,rfl,rfl,zb ω,done _ (Dx W (Int.le_refl _))⟩
  ·exact⟨_,rfl,_,rfl,_,rfl,_,rfl,J,_,rfl,_,_,rfl,rfl,zb ω,_,rfl,_,rfl,_,_,rfl,rfl,_,rfl,_,rfl,J,_,_,rfl,rfl,zb ω,done _ (Dx W ω)⟩
end
end K18
end
section
namespace L2
open PySem PySem.Spec PyProof.Rows
def dB(x:Str)(n:Int):Str:=⟨(List.replicate n.toNat x.cps).foldl (·++·) #[]⟩
def Kp:R2:=fun v u H Q=>∃x n,v=.str x/\u=.int n/\2<=n/\n<=1000/\1<=x.length/\x.length<=100/\(dB x n).length<=100000/\Q (.str (dB x n)) H
section
variable{X:Cx}
def xM:bT X (binaryOp .Mult) Kp:=by
 intro aa s σ H x y v u Q I b c h;obtain⟨x,n,rfl,rfl,h2,e,h1,h4,d,q⟩:=h;obtain⟨t,rfl⟩:=b;obtain⟨t',rfl⟩:=c;have hb:(n==1|| x.length==0)=false:=by
  rw[Bool.or_eq_false_iff];exact⟨by simp;omega,by simp;omega⟩
 refine PySem.P.mul_str ?_ ?_ ?_ ?_
 ·rw[Bool.or_eq_false_iff]
  exact⟨decide_eq_false ω,decide_eq_false ω⟩
 ·intro _ _ z
  have:(1000:Int)<=(2 ^ 63-1) / n:=(Int.le_ediv_iff_mul_le ω).mpr ω;omega
 ·intro _ _
  have f:x.length*n.toNat<=100*1000:=Nat.mul_le_mul h4 ω;have a:100*1000<=sizeLine:=by rw[sizeLine_eq];decide
  unfold PySem.Builtin.Str.tooLong;exact decide_eq_false ω
 ·rw[if_neg ω,hb,if_neg ξ]
  exact⟨by have a:100000<=sizeLine:=by {rw[sizeLine_eq];decide};exact AA d a,⟨.str (dB x n),H,I.tok _,⟨_,rfl⟩,q⟩⟩
end
end L2
end
section
namespace K18
open K1 Tx
open PySem L2 STb
abbrev bI:Stmt:=top 62
abbrev eX:List Str:=["script","box","web","known","chain","words","piece","text","turn","name","some","due","found"]
def dE:zo eX ["script"] (ze bI):=⟨rfl,rfl,rfl,δ,rfl,δ,δ⟩
def Kq:List Stmt->List Stmt
 |.If _ b _ _::_=>b
 |_=>[]
abbrev ry:List Stmt:=Kq (List.drop 8 (zE bI))
def Gq(n m:Nat)(t:Str):Prop:=t.length<=n/\bl t<=m
def zU{n m c d:Nat}{a b:Str}(h:Gq n m a)(h':Gq c d b):Gq (n+c) (m+d) (a++b):=by
 refine⟨?_,?_⟩
 ·have:=h.1
  have:=h'.1;rw[<-eT,iC,Aq,eT,eT];omega
 ·have h1:=h.2
  have h2:=h'.2;show(sg (a++b)).count 32<=_;rw[iC,List.count_append];exact Nat.add_le_add h1 h2
def er{n m b c:Nat}{a:Str}(h:Gq n m a)(d:n<=b)(hm:m<=c):Gq b c a:=⟨AA h.1 d,AA h.2 hm⟩
instance (n m:Nat) (t:Str):Decidable (Gq n m t):=inferInstanceAs (Decidable (_/\_))
structure Tz(H2 H3:Hp)(L:Addr)(ts:List Str):Prop where
 h0:H2 L=none
 hL:H3 L=some (.lst (ts.map V.str))
 s:Same H2 H3
 g:∀t∈ts,Gq 100 1 t
def Tz.app{H2 a:Hp}{L:Addr}{ts:List Str}{t:Str}(h:Tz H2 a L ts)(ht:Gq 100 1 t):Tz H2 (upd a L (.lst (ts.map V.str++[V.str t]))) L (ts++[t]):=
 ⟨h.h0,by rw[al,At];rfl,h.s.then h.h0,fun u hu=>by
  rcases List.mem_append.mp hu with z|z
  ·exact h.g u z
  ·rw[List.mem_singleton.mp z];exact ht⟩
def Tz.cat{H2 a:Hp}{L T M:Addr}{ts us:List Str}(h:Tz H2 a L ts)(b:a T=none)(c:upd a T (.lst (us.map V.str)) M=none)(hu:∀t∈us,Gq 100 1 t):Tz H2 (upd (upd a T (.lst (us.map V.str))) M (.lst (ts.map V.str++us.map V.str))) M (ts++us):=
 ⟨h.s.free ((Same.new b).free c),by rw[al,At],(h.s.trans (Same.new b)).trans (Same.new c),fun u d=>by
  rcases List.mem_append.mp d with z|z
  ·exact h.g u z
  ·exact hu u z⟩
section
variable{P:Program}{w:World}{K:Ae}{mg:Str->Option Value}{base:Heap}
def Kr{f:Addr}{cdv:Value}{A:Around}{outer:List Env}{s:Shared}{H:Hp}{E:XK}(hr:Room 13 (aZ aE P w K mg base eX "law" (ze bI) f cdv A outer s H E).A)(Ct:Cl P w K mg base aE "_law_take" ["box","most"] 1 iR):∃J,PSs (aZ aE P w K mg base eX "law" (ze bI) f cdv A outer s H E).nox (List.drop 2 ry) J/\
   ∀(D:Ends)(p:Addr)(nm:Str)(j l o q r u G C fF:Option V)(H2:Hp),zD H2 p->Gq 15 0 nm->
    (∀t v H',Gq 100 1 t->zy p H2 H'->zD H' p->D.nx [j,some (.ref p),l,o,q,r,u,some (.str t),C,some (.str nm),v,none,none] H')->
    J D [j,some (.ref p),l,o,q,r,u,G,C,some (.str nm),fF,none,none] H2:=by
 have R8:∃J,PSs (aZ aE P w K mg base eX "law" (ze bI) f cdv A outer s H E).nox (List.drop 8 ry) J/\
   ∀(D:Ends)(p L:Addr)(nm:Str)(ts:List Str)(j l o q r u G C:Option V)(H2 N:Hp),zD H2 p->Tz H2 N L ts->ts.length=20->
    (∀t v H',Gq 100 1 t->zy p H2 H'->zD H' p->D.nx [j,some (.ref p),l,o,q,r,u,some (.str t),C,some (.str nm),v,none,none] H')->
    J D [j,some (.ref p),l,o,q,r,u,G,C,some (.str nm),some (.ref L),none,none] N:=by
  refine⟨_,zd (zj (i:=7) dE.nd rfl (Or.inl rfl) (cA zM (pv 10) (zQ Ct hr rfl aw (af (pv 1) (af zf ao))) (fun _ _=>rfl))),?_⟩;intro D p L nm ts j l o q r u G C H2 N hb I hl k;refine⟨_,rfl,_,rfl,p,20,rfl,hb.same I.s,ξ,ξ,fun i H4 i0 i1 bD hb4=>?_⟩;obtain⟨t,_,mt,ia,_,_⟩:=rv (ws:=ts) i0 ω;have fO:L≠p:=fun z=>by obtain⟨x,y,e,_⟩:=hb;rw[<-z,I.h0] at e;cases e
  exact⟨L,_,_,_,rfl,rfl,SqL.of (bD _ _ fO I.hL),ia,k t _ H4 (I.g t mt) ((zy.of I.s).trans bD) hb4⟩
 obtain⟨uK,gb,dX⟩:=R8;have R6:∃J,PSs (aZ aE P w K mg base eX "law" (ze bI) f cdv A outer s H E).nox (List.drop 6 ry) J/\
   ∀(D:Ends)(p L:Addr)(nm:Str)(ts:List Str)(j l o q r u G C:Option V)(H2 N:Hp),zD H2 p->Gq 15 0 nm->Tz H2 N L ts->ts.length=16->
    (∀t v H',Gq 100 1 t->zy p H2 H'->zD H' p->D.nx [j,some (.ref p),l,o,q,r,u,some (.str t),C,some (.str nm),v,none,none] H')->
    J D [j,some (.ref p),l,o,q,r,u,G,C,some (.str nm),some (.ref L),none,none] N:=by
  refine⟨_,za (zj (i:=10) dE.nd rfl (Or.inl rfl) (zq gg (pv 10) (zN (af (zq zi (zq zi (zq zi pe_str (pv 9)) pe_str) (pv 9)) (af (zq zi (zq zi (zq zi pe_str (zq xM pe_str zf)) pe_str) (pv 9)) ao)))))
   (za (zj (i:=10) dE.nd rfl (Or.inl rfl) (zq gg (pv 10) (zN (af (zq zi pe_str (pv 9)) (af (zq zi pe_str (pv 9)) ao))))) gb),?_⟩
  intro D p L nm ts j l o q r u G C H2 N hb c I hl k;have d:∀{n m Q Y:Nat}{a b:Str},Gq n m a->Gq Q Y b->n+Q<=1000->a.length+b.length<=sizeLine:=fun h h' z=>zb (by have:=h.1;have:=h'.1;omega);have Z:Gq 2 0 "1*":=δ
  have a2:Gq 3 1 " 1*":=δ
  have a3:Gq 1 0 "-":=δ
  have a4:Gq 30 0 (dB "9" 30):=δ
  have O:Gq 1 0 "*":=δ
  have S:Gq 3 1 "1 *":=δ
  have U:Gq 4 0 "1_0*":=δ
  have b1:=zU Z c;have b2:=zU b1 a2;have b3:=zU a3 a4;have b4:=zU b3 O;refine⟨_,rfl,_,rfl,_,_,rfl,rfl,d Z c ξ,_,_,rfl,rfl,d b1 a2 ξ,_,rfl,_,_,rfl,rfl,d b2 c ξ,_,_,rfl,rfl,ξ,ξ,ξ,ξ,δ,_,_,rfl,rfl,d a3 a4 ξ,_,_,rfl,rfl,d b3 O ξ,_,rfl,_,_,rfl,rfl,d b4 c ξ,zb (by simp),fun T X=>⟨L,T,_,_,rfl,rfl,(Same.new X) _ _ I.hL,al,by rw[Ab];exact zb (by simp;omega),fun M hM=>?_⟩⟩;have W:=I.cat (us:=["1*"++nm++" 1*"++nm,"-"++dB "9" 30++"*"++nm]) X hM (fun t ht=>by
   rcases List.mem_cons.mp ht with z|z
   ·rw[z];exact er (zU b2 c) ξ ξ
   ·rw[List.mem_singleton.mp z];exact er (zU b4 c) ξ ξ)
  refine⟨_,rfl,_,rfl,_,_,rfl,rfl,d S c ξ,_,rfl,_,_,rfl,rfl,d U c ξ,zb (by simp),fun T2 dI=>⟨M,T2,_,_,rfl,rfl,(Same.new dI) _ _ W.hL,al,by rw[Ab];exact zb (by simp;omega),fun M2 tZ=>?_⟩⟩;have t3:=W.cat (us:=["1 *"++nm,"1_0*"++nm]) dI tZ (fun t ht=>by
   rcases List.mem_cons.mp ht with z|z
   ·rw[z];exact er (zU S c) ξ ξ
   ·rw[List.mem_singleton.mp z];exact er (zU U c) ξ ξ)
  exact dX D p M2 nm _ j l o q r u G C H2 _ hb t3 (by simp[hl]) k
 obtain⟨vt,mT,jp⟩:=R6;have R3:∃J,PSs (aZ aE P w K mg base eX "law" (ze bI) f cdv A outer s H E).nox (List.drop 3 ry) J/\
   ∀(D:Ends)(p L:Addr)(nm:Str)(ts:List Str)(j l o q r u G C:Option V)(H2 N:Hp),zD H2 p->Gq 15 0 nm->Tz H2 N L ts->ts.length=9->
    (∀t v H',Gq 100 1 t->zy p H2 H'->zD H' p->D.nx [j,some (.ref p),l,o,q,r,u,some (.str t),C,some (.str nm),v,none,none] H')->
    J D [j,some (.ref p),l,o,q,r,u,G,C,some (.str nm),some (.ref L),none,none] N:=by
  refine⟨_,za (zR (zP AF PySem.F.slot_list_append PySem.F.type_list_append zT (pv 10) (af (zq zi pe_str (pv 9)) ao)))
   (za (zj (i:=10) dE.nd rfl (Or.inl rfl) (zq gg (pv 10) (zN (af pe_str (af pe_str (af (zq zi pe_str (pv 9)) (af (zq zi (zq zi pe_str (pv 9)) pe_str) (af (zq zi (zq zi (zq xM pe_str zf) pe_str) (pv 9)) ao))))))))
   (za (zR (zP AF PySem.F.slot_list_append PySem.F.type_list_append zT (pv 10) (af (zq zi (zq zi (zq xM pe_str zf) pe_str) (pv 9)) ao))) mT)),?_⟩
  intro D p L nm ts j l o q r u G C H2 N hb c I hl k;have d:∀{n m Q Y:Nat}{a b:Str},Gq n m a->Gq Q Y b->n+Q<=1000->a.length+b.length<=sizeLine:=fun h h' z=>zb (by have:=h.1;have:=h'.1;omega);have Z:Gq 2 0 "1*":=δ
  have a2:Gq 3 0 "1**":=δ
  have a3:Gq 3 0 "-1*":=δ
  have a4:Gq 30 0 (dB "9" 30):=δ
  have O:Gq 1 0 "*":=δ
  have S:Gq 1 1 " ":=δ
  have U:Gq 31 0 (dB "9" 31):=δ
  have a8:Gq 4 0 "1*98":=δ
  have a9:Gq 7 0 "1*98-97":=δ
  have b1:=zU Z c;have b2:=zU a4 O;have b3:=zU U O;refine⟨_,rfl,.inl ⟨rfl,_,SqL.of I.hL⟩,_,rfl,_,_,rfl,rfl,d a2 c ξ,L,_,_,rfl,rfl,I.hL,by rw[Ab];exact zK ω,?_⟩;have t1:=I.app (t:="1**"++nm) (er (zU a2 c) ξ ξ);refine⟨_,rfl,_,rfl,_,_,rfl,rfl,d a3 c ξ,_,rfl,_,_,rfl,rfl,d Z c ξ,_,_,rfl,rfl,d b1 S ξ,_,_,rfl,rfl,ξ,ξ,ξ,ξ,δ,_,_,rfl,rfl,d a4 O ξ,_,rfl,_,_,rfl,rfl,d b2 c ξ,zb (by simp),fun T X=>⟨L,T,_,_,rfl,rfl,(Same.new X) _ _ t1.hL,al,by rw[Ab];exact zb (by simp;omega),fun M hM=>?_⟩⟩;have W:=t1.cat (us:=["1*98","1*98-97","-1*"++nm,"1*"++nm++" ",dB "9" 30++"*"++nm]) X hM (fun t ht=>by
   rcases List.mem_cons.mp ht with z|ht
   ·rw[z];exact er a8 ξ ξ
   rcases List.mem_cons.mp ht with z|ht
   ·rw[z];exact er a9 ξ ξ
   rcases List.mem_cons.mp ht with z|ht
   ·rw[z];exact er (zU a3 c) ξ ξ
   rcases List.mem_cons.mp ht with z|ht
   ·rw[z];exact er (zU b1 S) ξ ξ
   ·rw[List.mem_singleton.mp ht];exact er (zU b2 c) ξ ξ)
  refine⟨_,rfl,.inl ⟨rfl,_,SqL.of W.hL⟩,_,_,rfl,rfl,ξ,ξ,ξ,ξ,δ,_,_,rfl,rfl,d U O ξ,_,rfl,_,_,rfl,rfl,d b3 c ξ,M,_,_,rfl,rfl,W.hL,by rw[Ab];exact zK (by simp;omega),?_⟩;have t3:=W.app (t:=dB "9" 31++"*"++nm) (er (zU b3 c) ξ ξ);exact jp D p M nm _ j l o q r u G C H2 _ hb c t3 (by simp[hl]) k
 obtain⟨vA,lc,iM⟩:=R3;refine⟨_,za (zj (i:=10) dE.nd rfl (Or.inl rfl) (zN (af pe_str (af pe_str (af pe_str (af pe_str (af (zq zi pe_str (pv 9)) (af (zq zi pe_str (pv 9)) (af (zq zi pe_str (pv 9)) (af (zq zi pe_str (pv 9)) (af (zq zi pe_str (pv 9)) ao))))))))))) lc,?_⟩;intro D p nm j l o q r u G C fF H2 hb c k;have d:∀{n m Q Y:Nat}{a b:Str},Gq n m a->Gq Q Y b->n+Q<=1000->a.length+b.length<=sizeLine:=fun h h' z=>zb (by have:=h.1;have:=h'.1;omega);have O:Gq 1 0 "*":=δ
 have S:Gq 2 0 "0*":=δ
 have U:Gq 3 0 "-0*":=δ
 have a8:Gq 3 0 "+1*":=δ
 have a9:Gq 3 0 "01*":=δ
 refine⟨_,rfl,_,_,rfl,rfl,d O c ξ,_,rfl,_,_,rfl,rfl,d S c ξ,_,rfl,_,_,rfl,rfl,d U c ξ,_,rfl,_,_,rfl,rfl,d a8 c ξ,_,rfl,_,_,rfl,rfl,d a9 c ξ,zb (by simp),fun L hL=>?_⟩;have lit:∀t∈([""," ","*","1*"]:List Str),Gq 100 1 t:=δ
 refine iM D p L nm (([""," ","*","1*"]:List Str)++["*"++nm,"0*"++nm,"-0*"++nm,"+1*"++nm,"01*"++nm]) j l o q r u G C H2 _ hb c ⟨hL,al,Same.new hL,fun t ht=>?_⟩ rfl k;rcases List.mem_append.mp ht with z|ht
 ·exact lit t z
 rcases List.mem_cons.mp ht with z|ht
 ·rw[z];exact er (zU O c) ξ ξ
 rcases List.mem_cons.mp ht with z|ht
 ·rw[z];exact er (zU S c) ξ ξ
 rcases List.mem_cons.mp ht with z|ht
 ·rw[z];exact er (zU U c) ξ ξ
 rcases List.mem_cons.mp ht with z|ht
 ·rw[z];exact er (zU a8 c) ξ ξ
 ·rw[List.mem_singleton.mp ht];exact er (zU a9 c) ξ ξ
end
end K18
end
section
namespace DEq
open PySem
section
variable{prog:Program}{w:World}{K:Type}[DecidableEq K]{knd:HeapKind prog w K}{A:Around}{E:Ω}{s:Shared}
def Ks{id:String}{a b:Addr}{xs ys:List (K×Addr×Value)}{Q:Bool->Shared->Prop}(hu:knd.room A)(W:(a==sysModules)=false)(hb:(b==sysModules)=false)(hx:s.heap.DictOfH knd a xs)(hy:s.heap.DictOfH knd b ys)(X:xs.length=ys.length)(Y:∀(i:Nat) k p v,xs[i]?=some (k,p,v)->∃(j:Nat)(q:Addr)(n:Int)(t t':Tok),v=.int n t/\ys[j]?=some (k,q,.int n t'))(h:Q true s):wpAny (model prog w) A (Builtin.Dict.samePairs id a b) Q E s:=by
 obtain⟨oa,c,pa,g,o8,l,I,N,uO⟩:=hx;obtain⟨ob,O,pb,u,c5,z,C,D,J⟩:=hy;have L:=size_of_entries (knd:=knd) I;have T:=size_of_entries (knd:=knd) C;unfold Builtin.Dict.samePairs Builtin.Dict.showsAll;rw[if_neg (by rw[W];exact As),if_neg (by rw[hb];exact As)];refine Aa (Ac (Aa (Ac ?_)));refine Aa (AY g l ?_);dsimp only;refine Aa (AY u z ?_);rw[if_neg (by rw[L,T,X];simp)];refine Aa (wpAny_dictEpoch g l ?_);refine Aa ?_;rw[Std.Legacy.Range.forIn_eq_forIn_range'];simp only[Std.Legacy.Range.size,Nat.sub_zero,Nat.add_sub_cancel,Nat.div_one];refine wpAny_forIn_list _ (fun rest r s'=>s'=s/\r.1=none/\∃i,rest=List.range' i (c.size-i)/\i<=c.size) _ ?_ ?_ _ _ ⟨rfl,rfl,0,by simp,AT _⟩
 ·rintro x rest r s' ⟨rfl,d,i,hr,hi⟩
  have f:i<c.size:=by
   rcases Nat.lt_or_ge i c.size with h|h
   ·exact h
   ·rw[Nat.sub_eq_zero_of_le h] at hr;simp at hr
  obtain⟨rfl,P⟩:x=i/\rest=List.range' (i+1) (c.size-(i+1)):=by
   have e:c.size-i=(c.size-(i+1))+1:=ω
   rw[e,List.range'_succ] at hr;injection hr with h1 h2
   exact⟨h1,h2⟩
  obtain⟨⟨k,p,v⟩,F⟩:∃y,xs[x]?=some y:=⟨xs[x]'(by rw[<-L];exact f),Af _⟩;obtain⟨S,q,n,t,t',rfl,G⟩:=Y x k p v F;have hex:c[x]?=some ⟨knd.hash k,.ref p,.int n t⟩:=by rw[entry_at I x,F];rfl
  have H:knd.is s'.heap k p:=N _ (Ay F);refine Aa (AY g l ?_);rw[hex];dsimp only;refine Aa (AU (Aa (wpAny_dictFind_heap hu H u z C D J (fun o=>absurd G (o S _)) fun j Z M=>?_)));obtain rfl:=idxH_unique J M G;dsimp only;refine Aa (AY u z ?_);have U:O[j]?=some ⟨knd.hash k,.ref q,.int n t'⟩:=by rw[entry_at C j,G];rfl
  rw[U];dsimp only;refine AU (wpAny_eqBool_int ?_);rw[if_neg (by simp)];refine Aa (wpAny_dictEpoch g l ?_);rw[if_neg (by simp)];exact Ac ⟨rfl,rfl,x+1,P,f⟩
 ·rintro⟨r1,r2⟩ s' ⟨rfl,d,_⟩
  simp only at d;subst d;exact Ac h
def Kt{id:String}{a b:Addr}{xs ys:List (K×Addr×Value)}{Q:Bool->Shared->Prop}(p:(a==sysModules)=false)(hb:(b==sysModules)=false)(hx:s.heap.DictOfH knd a xs)(hy:s.heap.DictOfH knd b ys)(q:xs.length≠ys.length)(h:Q false s):wpAny (model prog w) A (Builtin.Dict.samePairs id a b) Q E s:=by
 obtain⟨r,u,v,c,x,d,e,y,z⟩:=hx;obtain⟨ob,C,D,f,F,g,i,j,G⟩:=hy;have l:=size_of_entries (knd:=knd) e;have o:=size_of_entries (knd:=knd) i;unfold Builtin.Dict.samePairs Builtin.Dict.showsAll;rw[if_neg (by rw[p];exact As),if_neg (by rw[hb];exact As)];refine Aa (Ac (Aa (Ac ?_)));refine Aa (AY c d ?_);dsimp only;refine Aa (AY f g ?_);rw[if_pos (by rw[l,o];simpa using q)];exact Aa (wpAny_rule (Ac h))
def Ku{a b:Addr}{r:Bool}{Q:Ω}(c:A.units<cLine)(hx:s.TypeIs (.ref a) "dict")(hy:s.TypeIs (.ref b) "dict")(hs:∀(id:String)(R:Bool->Shared->Prop)(d:Ω)(A':Around),A'.units<=A.units+8->R r s->wpAny (model prog w) A' (Builtin.Dict.samePairs id a b) R d s)(h:Q (.bool r) s):wpAny (model prog w) A (compareOp .Eq (.ref a) (.ref b)) Q E s:=by
 show wpAny _ _ (richCompare .Eq (.ref a) (.ref b)) _ _ _;refine wpAny_richCompare_same_room (op:=.Eq) hx hy F.slot_dict_eq (A3 F.slot_dict_eq hx F.entry_dict_eq ?_ (F.args_dict_eq_2 _ _)) c;unfold Builtin.«dict.__eq__»
 wp_delta
 refine Aa ?_;unfold Builtin.Dict.dictSlotArgs;refine Aa (wpAny_notOrdered_dict hx ?_);refine Aa (show wpAny _ _ (pure (Value.ref a,[Value.ref b])) _ _ _ from Ac ?_);refine Ac ?_;dsimp only;refine Aa (wpAny_isInstance hy DCp.GV ?_);simp only[Bool.not_true,An,if_false];refine Aa (show wpAny _ _ (pure a) _ _ _ from Ac ?_);refine Aa (show wpAny _ _ (pure b) _ _ _ from Ac ?_);refine Aa (hs _ _ _ _ (by show A.units+1<=_;omega) ?_);refine Ac ⟨_,rfl,(fun e=>nomatch e),?_⟩;cases r<;>exact h
end
end DEq
namespace L2
open PySem PySem.Spec PyProof.Rows
def fi(H:Hp)(a b:Addr)(r:Bool):Prop:=∃(kvs c:List (List Key×V))(e f:Ξ)(ns:List Int),Rd H a (.dT kvs)/\Rd H b (.dT c)/\kvs.map (·.1)=e.map (·.map Sum.inl)/\c.map (·.1)=f.map (·.map Sum.inl)/\kvs.map (·.2)=ns.map V.int/\
 ((r=true/\kvs.length=c.length/\∀d∈kvs,d∈c)\/(r=false/\kvs.length≠c.length))
section
variable{X:Cx}
def Kv{aa:Ψ}{s:Shared}{σ:St}{H:Hp}{a b:Addr}{r:Bool}(I:Inv X aa σ H s)(hu:X.A.units+64<cLine)(h:fi H a b r):s.TypeIs (.ref a) "dict"/\s.TypeIs (.ref b) "dict"/\
  ∀(id:String)(R:Bool->Shared->Prop)(y:Ω)(A':Around),A'.units<=X.A.units+8->R r s->wpAny (model X.prog X.w) A' (Builtin.Dict.samePairs id a b) R y s:=by
 obtain⟨kvs,P,Q,S,ns,z,hb,hp,o,C,hc⟩:=h;obtain⟨q,xs,f,T,D⟩:=BZ I.hok z hp;obtain⟨u,ys,g,bl,E⟩:=BZ I.hok hb o;refine⟨(f X.prog X.w).typeIs,(g X.prog X.w).typeIs,fun id R y A' O hR=>?_⟩;rcases hc with ⟨rfl,F,hm⟩|⟨rfl,F⟩
 ·refine DEq.Ks (knd:=tupleKind (intKind X.prog X.w)) (show A'.units<cLine from ω) q u (f _ _) (g _ _) ω (fun i k p v e=>?_) hR
  obtain⟨g1,d,g2,g3⟩:=D i _ e;obtain⟨j,l⟩:=List.getElem?_of_mem (hm d (Ay g2));have L:j<ys.length:=by have:=(List.getElem?_eq_some_iff.mp l).1;omega
  have x:ys[j]?=some ys[j]:=Af L;obtain⟨f1,U,f2,f3⟩:=E j ys[j] x;rw[l] at f2;obtain rfl:=Ai f2;have k1:d.1=k.map Sum.inl:=by
   have:=congrArg (·[i]?) hp;simp only[Ao,g2,g1,A7,Option.some.injEq] at this;exact this
  have k2:d.1=ys[j].1.map Sum.inl:=by
   have:=congrArg (·[j]?) o;simp only[Ao,l,f1,A7,Option.some.injEq] at this;exact this
  have M:ys[j].1=k:=fG.mp (k2.symm.trans k1);have c:=congrArg (·[i]?) C;simp only[Ao,g2,A7] at c;cases en:ns[i]? with
  |none=>rw[en] at c;simp at c
  |some n=>
   rw[en] at c;have N:d.2=V.int n:=by simpa using c
   rw[N] at g3 f3;obtain⟨t,G⟩:=(show ∃t,v=Value.int n t from g3);obtain⟨t',J⟩:=(show ∃t,ys[j].2.2=Value.int n t from f3);refine⟨j,ys[j].2.1,n,t,t',G,?_⟩;rw[x,<-M,<-J]
 ·exact DEq.Kt (knd:=tupleKind (intKind X.prog X.w)) q u (f _ _) (g _ _) ω hR
def DF(hu:X.A.units+64<cLine):bT X (compareOp .Eq) (fun x y H Q=>∃a b r,x=.ref a/\y=.ref b/\fi H a b r/\Q (.bl r) H):=by
 intro aa s σ H x y v u Q I c d h;obtain⟨a,b,r,rfl,rfl,hc,q⟩:=h;cases c;cases d;obtain⟨e,f,hs⟩:=Kv I hu hc;exact DEq.Ku ω e f hs ⟨.bl r,H,I,rfl,q⟩
end
end L2
end
section
namespace K18
open K1 Tx
open PySem L2 STb
def Kw(cs:Ch)(q:List Int):(bJ (bx cs) (q.map Sum.inl)).isSome=decide (q∈ksC cs):=by
 unfold bJ bx ksC
 induction cs with
 |nil=>rfl
 |cons c r ih=>
  rw[AE,List.find?_cons,AE]
  by_cases e:c.1=q
  ·rw[decide_eq_true (fG.mpr e)]
   subst e;simp
  ·rw[decide_eq_false (fun z=>e (fG.mp z))]
   rw[ih];have:¬q=c.1:=fun z=>e z.symm;simp[this]
def wl(kn:Ξ)(cs:Ch):List Str:=(kn.filter fun k=>decide (k∈ksC cs)).map fun k=>term (k,dQ cs k)
def Kx{kn:Ξ}{cs:Ch}{p:List Int}{i:Nat}(h:kn[i]?=some p):wl (kn.take (i+1)) cs=if p∈ksC cs then wl (kn.take i) cs++[term (p,dQ cs p)] else wl (kn.take i) cs:=by
 unfold wl;rw[AX h,List.filter_append,At]
 by_cases z:p∈ksC cs
 ·rw[if_pos z,show [p].filter (fun k=>decide (k∈ksC cs))=[p] from List.filter_cons_of_pos (p:=fun k=>decide (k∈ksC cs)) (decide_eq_true z)];rfl
 ·rw[if_neg z,List.filter_cons_of_neg (by simpa using z)];simp
def Ky(a:Ξ)(cs:Ch):wl (canon a) cs=(b9 a cs).map term:=by unfold wl b9;rw[AC];rfl
def Kz(kn:Ξ)(cs:Ch):(wl kn cs).length<=kn.length:=by unfold wl;rw[Ab];exact List.length_filter_le _ _
structure Zs(H:Hp)(p O KN:Addr)(os ks:List Addr)(ac:Ξ):Prop where
 hb:zD H p
 hO:H O=some (.lst (os.map V.ref))
 ho:Tps H os ac
 hK:H KN=some (.lst (ks.map V.ref))
 hk:Tps H ks (canon ac)
 hw:cG ac
 h56:(canon ac).length<=56
def Zs.same{H H':Hp}{p O b:Addr}{os ks:List Addr}{a:Ξ}(h:Zs H p O b os ks a)(s:Same H H'):Zs H' p O b os ks a:=⟨h.hb.same s,s _ _ h.hO,s.tps h.ho,s _ _ h.hK,s.tps h.hk,h.hw,h.h56⟩
def Zs.box{H H':Hp}{p O b:Addr}{os ks:List Addr}{a:Ξ}(h:Zs H p O b os ks a)(s:zy p H H')(hb:zD H' p):Zs H' p O b os ks a:=⟨hb,s _ _ (h.hb.ne h.hO) h.hO,s.tps h.hb h.ho,s _ _ (h.hb.ne h.hK) h.hK,s.tps h.hb h.hk,h.hw,h.h56⟩
def Ak(a:Ξ)(t:Str):Prop:=t.length<=50000/\(Al t " ").length<=(canon a).length+3
def cmp_self{H:Hp}{a b:Addr}{cs:Ch}(c:H a=some (.dT (bx cs)))(hb:H b=some (.dT (bx cs))):fi H a b true:=⟨bx cs,bx cs,ksC cs,ksC cs,cs.map (·.2),.inl c,.inl hb,wW cs,wW cs,HX cs,.inl ⟨rfl,rfl,fun d h=>h⟩⟩
def KA{q:List Int}(hp:gT q)(a:q.length<=5):Gq 15 0 (word q):=by
 refine⟨(jv hp a).2,?_⟩;have:(sg (word q)).count 32=0:=List.count_eq_zero_of_not_mem fun z=>by have:=w4 hp z;omega
 show(sg (word q)).count 32<=0;omega
section
variable{P:Program}{w:World}{K:Ae}{mg:Str->Option Value}{base:Heap}
def rO(K:Ae):Sp:=fun vs H Q _=>∃(a:Addr)(ns:List Int),vs=[.ref a]/\SqL K H a (ns.map V.int)/\ns.length<=63/\∀H',Q (.bl true) H'
def KB{f:Addr}{cdv:Value}{A:Around}{outer:List Env}{s:Shared}{H:Hp}{Q:VK}{E:XK}(hr:Room 13 (aZ aE P w K mg base eX "law" (ze bI) f cdv A outer s H E).A)(k:∀H',Q (.bl true) H')(B:Bt mg)(Cw:Cl P w K mg base aE "_law_written" ["known","text"] 2 ro)(v:Cl P w K mg base aE "_law_asked" ["web","text"] 13 (rd K)):∃S,PSs (aZ aE P w K mg base eX "law" (ze bI) f cdv A outer s H E).nox (List.drop 9 (zE bI)) S/\
   ∀(p O q:Addr)(os ks:List Addr)(a:Ξ)(t:Str)(x C D F G I J M:Option V)(H2:Hp),Zs H2 p O q os ks a->Ak a t->
    S {nx:=fun _ H'=>Q .non H',rt:=Q} [x,C,some (.ref O),some (.ref q),D,F,G,some (.str t),I,J,M,none,none] H2:=by
 have T:=hr.units;refine⟨_,za (zj (i:=11) dE.nd rfl (Or.inl rfl) (zQ Cw hr rfl aw (af (pv 3) (af (pv 7) ao))))
  (za (zj (i:=12) dE.nd rfl (Or.inl rfl) (zQ v hr rfl aw (af (zt EO rfl B.list kq (af (pv 2) ao)) (af (pv 7) ao))))
  (za (zI (zl x0 (pv 11) fQ (au _)) (zd (zm (xQ (hJ d_ (pv 12) pe_str (au _)) (xO (hJ d_ (zQ v hr rfl aw (af (pv 2) (af (pv 7) ao))) pe_str (au _)))))) zp)
  (zd (zm (xQ (hJ (DF T) (pv 12) (pv 11) (au _)) (xO (hJ (DF T) (zQ v hr rfl aw (af (pv 2) (af (pv 7) ao))) (pv 11) (au _)))))))),?_⟩
 intro p O q os ks a t x C D F G I J M H2 z b;have c:=z.h56;have e:=Ka (text:=t) z.hw z.h56;refine⟨_,rfl,_,rfl,q,ks,canon a,t,rfl,z.hK,z.hk,mG a,ω,b.1,?_⟩;cases hwr:g0 (canon a) t with
 |none=>
  rw[hwr] at e;refine .inr ⟨rfl,fun Z d=>⟨_,rfl,O,_,rfl,.inl (SqL.of (d _ _ z.hO)),fun L l=>?_⟩⟩;have h:=(z.same d).same (Same.new (o:=.lst (os.map V.ref)) l);refine⟨_,rfl,L,os,a,t,rfl,al,h.ho,z.hw,c,b.1,b.2,.inr ⟨e,fun H5 g=>⟨_,rfl,rfl,_,rfl,?_⟩⟩⟩;have j:=h.same g;rw[show decide (V.non=V.non)=true from decide_eq_true rfl];refine aK ⟨_,rfl,rfl,_,rfl,?_⟩;rw[decide_eq_true rfl];refine aK ⟨_,rfl,_,rfl,O,os,a,t,rfl,j.hO,j.ho,z.hw,c,b.1,b.2,.inr ⟨e,fun r N=>⟨rfl,?_⟩⟩⟩;rw[decide_eq_true rfl];exact k r
 |some cs=>
  rw[hwr] at e;refine .inl ⟨cs,rfl,fun u Z d _ W=>⟨_,rfl,O,_,rfl,.inl (SqL.of (d _ _ z.hO)),fun L l=>?_⟩⟩;have h:=(z.same d).same (Same.new (o:=.lst (os.map V.ref)) l);have U:=(Same.new (o:=.lst (os.map V.ref)) l) _ _ W;refine⟨_,rfl,L,os,a,t,rfl,al,h.ho,z.hw,c,b.1,b.2,.inl ⟨cs,e,fun D2 H5 g _ X=>⟨_,rfl,rfl,_,rfl,?_⟩⟩⟩;have j:=h.same g;rw[show decide (V.ref u=V.non)=false from decide_eq_false (by intro y;cases y)];refine aW ⟨_,rfl,_,rfl,D2,u,true,rfl,rfl,cmp_self X (g _ _ U),_,rfl,aK ⟨_,rfl,_,rfl,O,os,a,t,rfl,j.hO,j.ho,z.hw,c,b.1,b.2,.inl ⟨cs,e,fun D3 r N _ Y=>⟨_,rfl,D3,u,true,rfl,rfl,cmp_self Y (N _ _ (g _ _ U)),k r⟩⟩⟩⟩
def KC{f:Addr}{cdv:Value}{A:Around}{outer:List Env}{s:Shared}{H:Hp}{Q:VK}{E:XK}(hr:Room 13 (aZ aE P w K mg base eX "law" (ze bI) f cdv A outer s H E).A)(k:∀H',Q (.bl true) H')(B:Bt mg)(ys:mg "str"=none)(S:Cl P w K mg base aE "_law_take" ["box","most"] 1 iR)(Cw:Cl P w K mg base aE "_law_written" ["known","text"] 2 ro)(Ca:Cl P w K mg base aE "_law_asked" ["web","text"] 13 (rd K)):∃X,PSs (aZ aE P w K mg base eX "law" (ze bI) f cdv A outer s H E).nox (List.drop 8 (zE bI)) X/\
   ∀(p O a:Addr)(os ks:List Addr)(c:Ξ)(t:Str)(u x y G I:Option V)(H2:Hp),Zs H2 p O a os ks c->Ak c t->
    X {nx:=fun _ H'=>Q .non H',rt:=Q} [u,some (.ref p),some (.ref O),some (.ref a),x,y,G,some (.str t),I,none,none,none,none] H2:=by
 obtain⟨t9,h9,Y⟩:=KB (f:=f) (cdv:=cdv) (A:=A) (outer:=outer) (s:=s) (H:=H) (Q:=Q) (E:=E) hr k B Cw Ca;obtain⟨tb,bz,Z⟩:=Kr (f:=f) (cdv:=cdv) (A:=A) (outer:=outer) (s:=s) (H:=H) (E:=E) hr S;refine⟨_,za (zI (zl d_ (zQ S hr rfl aw (af (pv 1) (af zf ao))) zf (au _))
  (za (zj (i:=9) dE.nd rfl (Or.inl rfl) pe_str)
  (za (zI (zl iH (zk zn rfl B.len cv (af (pv 3) ao)) zf (au _))
   (zd (zj (i:=9) dE.nd rfl (Or.inl rfl) (zP AK PySem.F.slot_str_join PySem.F.type_str_join ju pe_str (af (zw eX ["point"] [none] (jJ (cA zM (pv 3) (zQ S hr rfl aw (af (pv 1) (af (zk zn rfl B.len cv (af (pv 3) ao)) ao))) (fun _ _=>rfl))) (fun T C s₀ H₀ ex=>zr (i:=0) (cW ["point"]) rfl (Or.inl rfl)) (fun T C s₀ H₀ ex=>zL)
    (fun T C s₀ H₀ ex=>zt lw rfl ys mY (af (pv 0) ao)) (hfr:=bK δ)) ao)))) zp) bz)) zp) h9,?_⟩
 intro p O a os ks c t u x y G I H2 z ak;have h56:=z.h56;have jE:=z.hk.length;refine⟨_,rfl,p,4,rfl,z.hb,ξ,ξ,fun r H3 r0 r1 bj J=>⟨rfl,_,rfl,?_⟩⟩;have l:=z.box bj J;refine bv (fun _=>?_) (fun _=>Y p O a os ks c t _ _ _ _ _ _ _ _ H3 l ak);have fB:∀{o b:Hp}{t':Str}{U W:Option V},Zs o p O a os ks c->Gq 100 1 t'->zy p o b->zD b p->t9 {nx:=fun _ H'=>Q .non H',rt:=Q} [u,some (.ref p),some (.ref O),some (.ref a),x,y,G,some (.str t'),I,U,W,none,none] b:=fun{o b t' U W} d g h hb=>by
  refine Y p O a os ks c t' _ _ _ _ _ _ _ _ b (d.box h hb) ⟨by have:=g.1;omega,?_⟩;have:=g.2;rw[rp];omega
 refine⟨_,rfl,a,_,rfl,.inl (SqL.of l.hK),_,_,rfl,rfl,_,rfl,bv (fun e=>?_) (fun _=>Z _ p "0" _ _ _ _ _ _ _ _ _ H3 J δ fun t' v H' g h hb=>fB l g h hb)⟩;have hlen:0<ks.length:=by
  have:=of_decide_eq_true e;rw[Ab] at this;omega
 refine⟨rfl,_,rfl,_,rfl,_,rfl,a,_,rfl,.inl (SqL.of l.hK),p,_,rfl,J,by rw[Ab];omega,by rw[Ab];omega,fun j o j0 j1 bD L=>?_⟩;rw[Ab] at j1;have d:=l.box bD L;have hj:j.toNat<ks.length:=ω
 obtain⟨q,eq,hq⟩:=d.hk.get (Af hj);obtain⟨M,c2,N⟩:=xp z.hw.1 (Ay eq);have ia:ee (ks.map V.ref) j=some (.ref ks[j.toNat]):=by
  have:=zC (xs:=ks.map V.ref) (j:=j.toNat) (v:=.ref ks[j.toNat]) (by rw[Ao,Af hj];rfl)
  rwa [show((j.toNat:Nat):Int)=j from ω] at this
 refine⟨a,_,_,_,rfl,rfl,SqL.of d.hK,ia,_,rfl,⟨_,SqT.of hq⟩,fun D hD=>zH (xf hq N M hD fun b cL dv=>⟨_,D,_,rfl,rfl,SqL.of dv,(jv M N).1,?_⟩)⟩;have z5:=d.same cL;exact Z _ p (word q) _ _ _ _ _ _ _ _ _ b z5.hb (KA M N) fun t' v H' g h hb=>fB z5 g h hb
end
def k4(a:Ξ)(i:Nat)(t:Str):Prop:=t.length+2<=9602*2 ^ i/\bl t<=(canon a).length+i
def KD{e:Ξ}{i:Nat}{t u:Str}(h:k4 e i t)(hc:kW t u):k4 e (i+1) u:=by
 obtain⟨a,b⟩:=h;obtain⟨c,d⟩:=hc;refine⟨?_,ω⟩;rw[Nat.pow_succ];omega
def KF{c:Ξ}{i:Nat}{t:Str}(h:k4 c i t)(hi:i<=2):Ak c t:=by
 obtain⟨a,b⟩:=h;have:2 ^ i<=2 ^ 2:=Nat.pow_le_pow_right ξ hi;refine⟨ω,by rw[rp];omega⟩
def xN{a:Ξ}{cs:Ch}(c:Oc a cs):k4 a 0 (be (b9 a cs)):=by
 have b:=ra c;have f:=b.len;have e:=c.h56;refine⟨by have:=(w5 b.tm ω).2;omega,?_⟩
 by_cases d:b9 a cs=[]
 ·rw[d]
  have:bl (be [])=0:=δ
  omega
 ·have:=rp (be (b9 a cs))
  rw[CI b.tm d,Ab] at this;omega
section
variable{P:Program}{w:World}{K:Ae}{mg:Str->Option Value}{base:Heap}
def KG{f:Addr}{fd:FuncData}(F:Fun K "law" "law" bI f fd)(B:Bt mg)(ys:mg "str"=none)(Cc:Cl P w K mg base aE "_law_cell_at" ["script","k"] 1 (B2 K))(Cb:Cl P w K mg base aE "_law_box" ["cell"] 1 B3)(Ct:Cl P w K mg base aE "_law_take" ["box","most"] 1 iR)(Ce:Cl P w K mg base aE "_law_web" ["box"] 3 B6)(uJ:Cl P w K mg base aE "_law_pieces" ["web"] 2 (ms K))(qi:Cl P w K mg base aE "_law_chain" ["box","known","high"] 2 (Cy K))(Cg:Cl P w K mg base aE "_law_changed" ["box","text"] 2 DE)(Cw:Cl P w K mg base aE "_law_written" ["known","text"] 2 ro)(Ca:Cl P w K mg base aE "_law_asked" ["web","text"] 13 (rd K)):FnOk P w K mg base aE 14 f fd ["script"] (rO K):=by
 refine F.ok dE (fun vs H Q E h=>?_) (fun cdv A outer s H vs Q E hr h=>?_)
 ·obtain⟨a,ns,rfl,_⟩:=h;rfl
 ·obtain⟨a,ns,rfl,hS,hn,k⟩:=h
  have hu:=hY hr;obtain⟨t8,h8,e8⟩:=KC (f:=f) (cdv:=cdv) (A:=A) (outer:=outer) (s:=s) (H:=H) (Q:=Q) (E:=E) hr k B ys Ct Cw Ca;have k6:∃te,PSs (aZ aE P w K mg base eX "law" (ze bI) f cdv A outer s H E).nox (List.drop 7 (zE bI)) te/\
    ∀(p O e:Addr)(os ks:List Addr)(d:Ξ)(t:Str)(l Z v5 v:Option V)(H2:Hp),Zs H2 p O e os ks d->k4 d 0 t->
     te {nx:=fun _ H'=>Q .non H',rt:=Q} [l,some (.ref p),some (.ref O),some (.ref e),Z,v5,v,some (.str t),none,none,none,none,none] H2:=by
   refine⟨_,za (eu A2 rfl (sT rfl B.range (af (zq ey zf (zQ Ct hr rfl aw (af (pv 1) (af zf ao)))) ao)) (zr (i:=8) dE.nd rfl (Or.inl rfl))
    (zd (zj (i:=7) dE.nd rfl (Or.inl rfl) (zQ Cg hr rfl aw (af (pv 1) (af (pv 7) ao)))))) h8,?_⟩
   intro p O e os ks d t l Z v5 v H2 z ct;refine⟨_,rfl,p,2,rfl,z.hb,ξ,ξ,fun r I r0 r1 bj T=>⟨_,_,rfl,rfl,_,rfl,ω,ω,?_⟩⟩;have J:=z.box bj T;refine s_ (lo:=0) (n:=(1+r).toNat) (fun i σ M=>∃(u:Str)(v8:Option V),σ=[l,some (.ref p),some (.ref O),some (.ref e),Z,v5,v,some (.str u),v8,none,none,none,none]/\Zs M p O e os ks d/\k4 d i u)
    ⟨t,none,rfl,J,ct⟩ ?_ ?_
   ·rintro i σ M hi ⟨u,v8,rfl,U,X⟩
    have hi2:i<=1:=ω
    have:2 ^ i<=2 ^ 1:=Nat.pow_le_pow_right ξ hi2;refine⟨_,rfl,_,rfl,p,u,rfl,U.hb,by have:=X.1;omega,fun u' H5 hc b0 c6=>⟨u',_,rfl,U.box b0 c6,KD X hc⟩⟩
   ·rintro σ M ⟨u,v8,rfl,U,X⟩
    exact e8 p O e os ks d u _ _ _ _ _ M U (KF X ω)
  obtain⟨t7,h7,e7⟩:=k6;have ky:∃te,PSs (aZ aE P w K mg base eX "law" (ze bI) f cdv A outer s H E).nox (List.drop 4 (zE bI)) te/\
    ∀(p O e C:Addr)(os ks:List Addr)(d:Ξ)(cs:Ch)(l:Option V)(H2:Hp),Zs H2 p O e os ks d->H2 C=some (.dT (bx cs))->Oc d cs->
     te {nx:=fun _ H'=>Q .non H',rt:=Q} [l,some (.ref p),some (.ref O),some (.ref e),some (.ref C),none,none,none,none,none,none,none,none] H2:=by
   refine⟨_,za (zj (i:=5) dE.nd rfl (Or.inl rfl) (zN ao))
    (za (eu A2 rfl (zG (pv 3)) (zr (i:=6) dE.nd rfl (Or.inl rfl))
     (zd (zI (DU (E3 hu (pv 6) (pv 4)) (by with_unfolding_all rfl))
      (zd (zR (zP AF PySem.F.slot_list_append PySem.F.type_list_append zT (pv 5) (af
       (zq zi (zq zi (zt lw rfl ys mY (af (yw hu (pv 4) (pv 6) (fun _ _=>rfl)) ao)) pe_str)
        (zP AK PySem.F.slot_str_join PySem.F.type_str_join ju pe_str (af (zw eX ["point"] [none] (jJ (pv 6)) (fun cl C s₀ H₀ ex=>zr (i:=0) (cW ["point"]) rfl (Or.inl rfl)) (fun cl C s₀ H₀ ex=>zL)
         (fun cl C s₀ H₀ ex=>zt lw rfl ys mY (af (pv 0) ao)) (hfr:=bK δ)) ao))) ao)))) zp)))
    (za (zj (i:=7) dE.nd rfl (Or.inl rfl) (zP AK PySem.F.slot_str_join PySem.F.type_str_join ju pe_str (af (pv 5) ao))) h7)),?_⟩
   intro p O e C os ks d cs l H2 z hC j;refine⟨zb (by simp),fun W hW=>?_⟩;have sW:=Same.new (o:=.lst []) hW;have jE:=z.hk.length;have L:=j.h56;refine⟨_,rfl,e,rfl,⟨_,SqL.of (sW _ _ z.hK)⟩,gQ (K:=K) (a:=e) (xs:=ks.map V.ref) (fun i σ I=>∃v:Option V,σ=[l,some (.ref p),some (.ref O),some (.ref e),some (.ref C),some (.ref W),v,none,none,none,none,none,none]/\Same H2 I/\I W=some (.lst ((wl ((canon d).take i) cs).map V.str)))
    ⟨none,rfl,sW,al⟩ (fun i σ I _ ⟨_,_,G,_⟩=>SqL.of (G _ _ z.hK)) ?_ ?_⟩
   ·rintro i x σ I hx ⟨v,rfl,G,N⟩
    obtain⟨b,eb,rfl⟩:=eR hx;have J:=z.same G;have o0:=G _ _ hC;obtain⟨q,ep,hp⟩:=J.hk.get eb;have ff:=Ay ep;obtain⟨c1,c2,c3⟩:=xp j.hw.1 ff;have Y:=Kx (cs:=cs) ep;have fc:=Kz ((canon d).take i) cs;rw[AV] at fc;refine⟨_,rfl,_,rfl,C,_,rfl,DGet.t (k:=q.map Sum.inl) o0 (by rw[AC];exact hp),_,rfl,?_⟩;rw[Kw]
    by_cases g:q∈ksC cs
    ·rw[decide_eq_true g]
     rw[if_pos g] at Y;obtain⟨c,hc,rfl⟩:=kR g;have tm:=j.tm c hc;have hs:c.2.natAbs<10 ^ 30:=j.sm c hc;have l1:(fig c.2).length<=31:=(kH tm.2.2.2).2.1;have l2:(word c.1).length<=15:=(jv c1 c3).2;have l3:(fig c.2++("*":Str)).length<=32:=by
      show((fig c.2).cps++("*":Str).cps).size<=32;rw[Array.size_append,show("*":Str).cps.size=1 from δ];have:(fig c.2).cps.size<=31:=l1;omega
     refine aK ⟨_,rfl,.inl ⟨rfl,_,SqL.of N⟩,_,rfl,_,rfl,C,_,rfl,.inr ⟨bx cs,c.1.map Sum.inl,b,.inl o0,rfl,p8 hp,(pY j.nd c hc).symm⟩,c.2,rfl,CS hs,_,_,rfl,rfl,zb (show(fig c.2).length+("*":Str).length<=100000 by rw[show("*":Str).length=1 from δ];omega),rfl,_,rfl,b,rfl,⟨_,SqT.of hp⟩,fun D hD=>zH (xf hp c3 c1 hD fun M aN cC=>⟨_,D,_,rfl,rfl,SqL.of cC,(jv c1 c3).1,_,_,rfl,rfl,zb (show(fig c.2++("*":Str)).length+(word c.1).length<=100000 from ω),?_⟩)⟩;refine⟨W,_,_,rfl,rfl,aN _ _ N,by rw[Ab];exact zK ω,⟨_,rfl,(G.trans aN).then hW,?_⟩⟩;rw[al,Y,q5 j.nd hc,At]
     rfl
    ·rw[decide_eq_false g]
     rw[if_neg g] at Y;exact aW ⟨_,rfl,G,by rw[Y];exact N⟩
   ·rintro σ I ⟨v,rfl,G,N⟩
    rw[Ab,jE,AD (Ag _),Ky] at N;have so:=ra j;have t6:=so.len;exact⟨rfl,_,rfl,_,W,_,rfl,rfl,SqL.of N,(w5 so.tm ω).1,e7 p O e os ks d (be (b9 d cs)) l _ _ v I (z.same G) (xN j)⟩
  obtain⟨t4,h4,e4⟩:=ky;refine⟨_,za (zj (i:=1) dE.nd rfl (Or.inl rfl) (zQ Cb hr rfl aw (af (zQ Cc hr rfl aw (af (pv 0) (af zf ao))) ao)))
   (za (zj (i:=2) dE.nd rfl (Or.inl rfl) (zQ Ce hr rfl aw (af (pv 1) ao)))
   (za (zj (i:=3) dE.nd rfl (Or.inl rfl) (zQ uJ hr rfl aw (af (pv 2) ao)))
   (za (zj (i:=4) dE.nd rfl (Or.inl rfl) (zQ qi hr rfl aw (af (pv 1) (af (pv 3) (af (zQ Ct hr rfl aw (af (pv 1) (af zf ao))) ao)))))
   h4))),?_⟩
  refine⟨_,rfl,a,ns,rfl,hS,fun n=>⟨n,rfl,fun p x y hp bo=>?_⟩⟩;refine⟨_,rfl,p,rfl,⟨x,y,al,bo⟩,fun O os d H1 cX c5 vO kZ nG oK=>?_⟩;obtain⟨hw,cZ,wc⟩:=HF oK;obtain⟨dP,_,h5,_⟩:=wQ hw;have gc:=HK oK;have L:(canon d).length<=56:=by rw[wP];exact gc
  have S:cG d:=⟨hw,ω⟩;have wy:O≠p:=c5.ne kZ;refine⟨_,rfl,O,os,d,rfl,SqL.of kZ,nG,h5,dP,ω,fun e H2 qs t=>?_⟩;obtain⟨ks,cY,_,jm,mB⟩:=Cf t;have bz:=c5.same cY;have z2:Zs H2 p O e os ks d:=⟨bz,cY _ _ kZ,cY.tps nG,jm,mB,S,L⟩;refine⟨_,rfl,_,rfl,_,rfl,p,4,rfl,bz,ξ,ξ,fun hi I i0 i1 bj T=>?_⟩;have J:=z2.box bj T;refine⟨p,e,ks,canon d,hi,rfl,T,J.hK,J.hk,ω,fun C cs M bD hb4 oY pH nd sub len wt=>?_⟩;have j:Oc d cs:=⟨S,L,nd,fun c hc=>sub c.1 (List.mem_map.mpr ⟨c,hc,rfl⟩),⟨(hi+1).toNat,fun c hc=>by have:=(wt c hc).1;omega⟩,fun c hc=>(wt c hc).2.1,fun c hc=>by have:=(wt c hc).2.2;show c.2.natAbs<10 ^ 30;omega⟩;exact e4 p O e C os ks d cs _ M (J.box bD hb4) pH j
end
end K18
end
section
namespace K18
open K1
open PySem L2 STb
def KH{l:PySem.W.OpenLaw}{w:World}{K:Ae}{h:Heap}{mg:Str->Option Value}{fa f1 f2 f3 f4 f5 f6 f7 f8 f9 dY rh qU pE pF vb uR qF pR rf qy qg uD vh ux sE vg rn rT p9 ua sw qC uV tj o9 vd e0 e1 e2 e3 e4 e5 e6 e7 e8 e9 a eS:Addr}{tp tq tr ts tt tu tv:Tok}(X:K.In h)(G:h.Ns mainGlobals mg)(uu:mg "law"=some (.ref fa))(d1:Df K "is_piece" oJ f1)(d2:Df K "parts_of" km f2)(d3:Df K "order_key" eI f3)(d4:Df K "in_order" ko f4)(d5:Df K "all_parts" sAll f5)(d6:Df K "is_web" oM f6)(d7:Df K "must_be_web" pV f7)(d8:Df K "pieces" pW f8)(d9:Df K "is_chain" pX f9)(j7:Df K "is_of_one_height" ix dY)(qb:Df K "must_be_chain" p0 rh)(rR:Df K "shown_piece" qw qU)(rL:Df K "read_piece" w9 pE)(qJ:Df K "read_point" w_ pF)(pN:Df K "read_number" xa vb)(qf:Df K "shown_chain" qW uR)(tU:Df K "shown_term" qX qF)(qP:Df K "shown_number" q3 pR)(r9:Df K "read_chain" xo rf)(ub:Df K "read_weight" xl qy)(uX:Df K "_law_cell_at" wM qg)(qj:Df K "_law_box" jr uD)(q8:Df K "_law_take" kw vh)(uA:Df K "_law_parts" mx ux)(sY:Df K "_law_pieces" wO sE)(tN:Df K "_law_known" pu vg)(rH:Df K "_law_named" mC rn)(rE:Df K "_law_web" js rT)(tI:Df K "_law_chain" wY p9)(vf:Df K "_law_which" i3 ua)(pi:Df K "_law_point" xC sw)(rB:Df K "_law_weight" gO qC)(sM:Df K "_law_written" rm uV)(uz:Df K "_law_changed" dA tj)(uj:Df K "_law_asked" xB o9)(nt:Df K "law" bI vd)(gp:Nn K "MOST_POINTS" (some (.int 5 tp)))(gq:Nn K "LAST_POINT" (some (.int 99 tq)))(gr:Nn K "MOST_HANDED" (some (.int 20 tr)))(gs:Nn K "MOST_PIECES" (some (.int 200 ts)))(gt:Nn K "FIGURES" (some (.str "0123456789" tt)))(gu:Nn K "MOST_FIGURES_chainnotes" (some (.int 30 tu)))(gv:Nn K "MOST_FIGURES_webnotes" (some (.int 2 tv)))(qx:Nn K "NoWeb" (some (.ref e0)))(pB:Nn K "NoPiece" (some (.ref e1)))(uo:Nn K "NoChain" (some (.ref e2)))(uP:Nn K "NotClosed" (some (.ref e3)))(qa:Nn K "NoTable" (some (.ref e4)))(sX:Nn K "NoGoal" (some (.ref e5)))(sO:Nn K "NoPush" (some (.ref e6)))(pC:Nn K "NoMap" (some (.ref e7)))(vc:Nn K "NoOrder" (some (.ref e8)))(rY:Nn K "NoNumber" (some (.ref e9)))(o:Nn K "NoNote" (some (.ref a)))(qL:Nn K "SeamError" (some (.ref eS)))(oq:PySem.W.excIn K a jx "ValueError.__new__"=true)(pf:Mk K a e0 e1 e2 e3 e4 e5 e6 e7 e8 e9 a 10)(p7:iA K a eS)(z1:Nn K "len" none)(z2:Nn K "all" none)(z3:Nn K "zip" none)(z4:Nn K "sorted" none)(z5:Nn K "set" none)(z6:Nn K "list" none)(z7:Nn K "tuple" none)(z8:Nn K "range" none)(z9:Nn K "enumerate" none)(sP:Nn K "int" none)(sJ:Nn K "isinstance" none)(qR:Nn K "reversed" none)(pe:Nn K "bool" none)(uv:Nn K "dict" none)(qH:Nn K "ValueError" none)(p:Nn K "str" none)(pL:Nn K "abs" none):∃fd:FuncData,(∀(s:Shared)(v:Value),BindsTo s fd ⟨[v],[]⟩ [("script",v)])/\∀base:Heap,K.In base->base.Ns mainGlobals mg->FnOk l.prog w K mg base aE 14 fa fd ["script"] (rO K):=by
 cases uu.symm.trans (nt.m X G);have B:Bt mg:=⟨z1.n X G,z2.n X G,z3.n X G,z4.n X G,z5.n X G,z6.n X G,z7.n X G,z8.n X G,z9.n X G,sP.n X G,sJ.n X G,qR.n X G,pe.n X G,uv.n X G⟩;obtain⟨g1,F1,b1,m1⟩:=d1.g1 X G "numbers";obtain⟨g2,F2,z,A⟩:=d2.g1 X G "piece";obtain⟨g3,q,c,d⟩:=d3.g1 X G "piece";obtain⟨g4,r,f,g⟩:=d4.g1 X G "some";obtain⟨g5,u,C,D⟩:=d5.g1 X G "some";obtain⟨g6,F6,b6,m6⟩:=d6.g1 X G "web";obtain⟨g7,x,E,F⟩:=d7.g1 X G "web";obtain⟨g8,F8,b8,m8⟩:=d8.g1 X G "web";obtain⟨g9,y,H,I⟩:=d9.g2 X G "web" "chain";obtain⟨wu,J,qZ,lY⟩:=j7.g1 X G "some";obtain⟨wq,L,uc,t_⟩:=qb.g2 X G "web" "chain";obtain⟨wv,M,u0,u6⟩:=rR.g1 X G "piece";obtain⟨vK,N,uk,qO⟩:=rL.g1 X G "word";obtain⟨vE,O,qS,tM⟩:=qJ.g1 X G "figures";obtain⟨wo,Q,uq,pc⟩:=pN.g2 X G "figures" "most";obtain⟨vY,S,qe,vi⟩:=qf.g2 X G "web" "chain";obtain⟨ww,T,uL,rz⟩:=tU.g2 X G "piece" "weight";obtain⟨vz,U,sx,rJ⟩:=qP.g1 X G "number";obtain⟨vx,Y,rj,tF⟩:=r9.g2 X G "web" "text";obtain⟨wf,Z,su,lP⟩:=ub.g1 X G "word";obtain⟨vq,oQ,uU,rC⟩:=uX.g2 X G "script" "k";obtain⟨vR,oS,sU,uM⟩:=qj.g1 X G "cell";obtain⟨wb,b,i,j⟩:=q8.g2 X G "box" "most";obtain⟨vZ,rg,rD,qc⟩:=uA.g1 X G "piece";obtain⟨vL,nv,qE,uT⟩:=sY.g1 X G "web";obtain⟨vQ,rF,q_,sv⟩:=tN.g1 X G "number";obtain⟨wa,qM,u3,tS⟩:=rH.g2 X G "box" "web";obtain⟨wj,nR,qp,uC⟩:=rE.g1 X G "box";obtain⟨vP,nO,qd,sd⟩:=tI.g3 X G "box" "known" "high";obtain⟨vU,nn,pD,pK⟩:=vf.g1 X G "e";obtain⟨vB,nF,qr,u1⟩:=pi.g1 X G "word";obtain⟨vk,oC,pd,se⟩:=rB.g1 X G "word";obtain⟨vV,nA,o_,rN⟩:=sM.g2 X G "known" "text";obtain⟨vI,ou,tJ,ql⟩:=uz.g2 X G "box" "text";obtain⟨vn,nE,rP,pO⟩:=uj.g2 X G "web" "text";obtain⟨⟨gL,FL⟩,_⟩:=nt;refine⟨gL,?_,fun base _ _=>?_⟩
 ·obtain⟨_,_,_,_,_,_,_,_,_,rfl,_,_⟩:=FL.ex;exact fun s v=>.of_eq rfl
 have lX:=BQ (P:=l.prog) (w:=w) (base:=base) u B F2 z A r f g q c d;have kO:=GR (P:=l.prog) (w:=w) (base:=base) F6 B (gp.m X G) (gq.m X G) (gr.m X G) (gs.m X G) F1 b1 m1 u C D F2 z A r f g q c d;have Gm:=HN x F6 b6 m6 kO;have Gp:=HP F8 x E F Gm u C D lX;have Go:=Ib (P:=l.prog) (w:=w) (base:=base) J B;have Gi:=Ig y B F8 b8 m8 Gp J qZ lY Go;have uw:=Ii L y H I Gi;have uW:=JC T U sx rJ (JA (P:=l.prog) (w:=w) (base:=base) U (p.n X G) (pL.n X G)) M u0 u6 (IG (P:=l.prog) (w:=w) (base:=base) M (p.n X G));have uE:=JK S B L uc t_ uw r f g q c d T uL rz uW;have Cn:=dn Q uq pc (Jq (P:=l.prog) (w:=w) (base:=base) Q B (gt.m X G) (o.m X G) oq);have tX:=dn N uk qO (Jv N B (dn O qS tM (Js O (gv.m X G) Cn)));have sZ:=dn Z su lP (Jy Z (gu.m X G) Cn);have uS:=dn Y rj tF (JV Y B (o.m X G) oq (dn x E F Gm) (dn y H I Gi) (dn S qe vi uE) tX sZ);have tT:=JY (P:=l.prog) (w:=w) (base:=base) nn B.isinstance (qH.n X G) (qx.m X G) (pB.m X G) (uo.m X G) (uP.m X G) (qa.m X G) (sX.m X G) (sO.m X G) (pC.m X G) (vc.m X G) (rY.m X G) (o.m X G);have Ct:=dn b i j (pl (P:=l.prog) (w:=w) (base:=base) b);have Cw:=dn nA o_ rN (Kk nA B (dn nF qr u1 (J1 (P:=l.prog) (w:=w) (base:=base) nF B)) (dn oC pd se (J4 oC B)));have Ca:=dn nE rP pO (JZ nE (qL.m X G) uS nn pD pK tT pf p7);exact KG FL B (p.n X G) (dn oQ uU rC (Hb oQ B)) (dn oS sU uM (Hd oS)) Ct (dn nR qp uC (Hv nR B b i j qM u3 tS rF q_ sv)) (dn nv qE uT (Hi (P:=l.prog) (w:=w) (base:=base) nv B rg rD qc)) (dn nO qd sd (Il nO B b i j)) (dn ou tJ ql (Ko ou B Ct)) Cw Ca
def walk{l:PySem.W.OpenLaw}{q:Program}{g:List Str}{p:(Str->Option Value)->Heap->Prop}{b:World->Heap->Prop}{d:DefRec}{K:Params->Ae}(i:l.most=some 63)(j:d.params.defaults=[])(o:∀(w:World)(h:Heap),b w h->(K w.params).In h)(F:∀(w:World)(mg:Str->Option Value)(fa:Addr)(h:Heap),(K w.params).In h->h.Ns mainGlobals mg->mg d.name=some (.ref fa)->
   ∃fd:FuncData,(∀(s:Shared)(u:Value),BindsTo s fd ⟨[u],[]⟩ [("script",u)])/\∀base:Heap,(K w.params).In base->base.Ns mainGlobals mg->FnOk l.prog w (K w.params) mg base aE 14 fa fd ["script"] (rO (K w.params))):
  PySem.W.WalkO q g p b l.row.toRowW d [] (fun f vs=>PySem.call f vs):=
 L2.yz (n:=63) (k:=14) (x:="script") (CX:=fun _=>aE) (sp:=fun w=>rO (K w.params)) i ξ j ⟨rfl,ξ,ξ⟩ o F (fun _ _ a ns c _ e=>⟨a,ns,rfl,e,c,fun _=>rfl⟩) fun _ _ _ _ _ z=>z
end K18
open PySem PySem.W PyProof.Rows
structure PySem.W.Fast:Prop where
 (tw10015552070170791531 tw10026211795214941412 tw10132173048658277039 tw10234410522252801805 tw10245266158325567545 tw10304347664890031552 tw10307403650351813936 tw10330236015915149296 tw1035196796109756667 tw10352292819384476201 tw10478021847954754337 tw10535170587385786322 tw10569223807509041677 tw1062879211777252697 tw10667762983502726767 tw10694233008443946494 tw10735551028368696142 tw10739122167447585553 tw10836218222788658489 tw10880618514938340103 tw10888646671138067389 tw10902377773099734658 tw10921156129291105610 tw1092834795998302355 tw10985972169270085763 tw11002511512142945530 tw11046973297465448716 tw11083429617908030926 tw11105720120454550159 tw11150114091591451718 tw11165424712394304547 tw11178320388168415416 tw11190242197062114204 tw11200050347550045755 tw11227765850542368618 tw11391343937710167568 tw11402480036777289 tw11471982494696775086 tw11544230718769072703 tw11628278293639438761 tw11650994505135267119 tw11702891226667900307 tw11715589557717302492 tw11725849299119374796 tw11803272075534784970 tw11804224447804112521 tw11869670317867784374 tw1190254101590346464 tw11910454336237768677 tw1202675880123515279 tw12037197214971655896 tw12075460414572223270 tw12113478535298250143 tw12191638288884459668 tw12220522326492626575 tw1233279947207489622 tw12362689617133691942 tw12368232951711739872 tw12369203574869932710 tw12423764126581798930 tw12448986793399300229 tw12488573079092858870 tw1250170005957514016 tw12508160748231713841 tw12523105659618051816 tw12564721273901932729 tw12565189636693044590 tw12631210362176705524 tw12697373311295977345 tw12729714385358475902 tw12752225550144854726 tw12805275390342758829 tw12823638529152496419 tw12905795413716828888 tw12929042079917679824 tw12944679860507116103 tw12963399581538473092 tw13012477292813137201 tw13033426164894642025 tw13063391601709268159 tw13212139685892977200 tw13218250040247314793 tw13249079640941678549 tw13275643103907331375 tw13341674378356486140 tw13353132428361356828 tw13570838992487753996 tw1360703258373829393 tw13656720530958122532 tw13690797852627899467 tw13740235643588574046 tw13810494901583545079 tw13865771944395546879 tw13893945543470418141 tw13924194095347742025 tw13989133963285654812 tw14066907497846240636 tw14128540933877858583 tw14279056698815973751 tw14294695952333399850 tw14333916595920901979 tw14364953342064600867 tw14369826514178012903 tw14376206349877480075 tw14389220070888506006 tw14431575448659116460 tw14504718399385967208 tw14544645249901710450 tw14575897637894952177 tw14638886151597382082 tw14659489212230579918 tw14666789484859098623 tw1471497047368332653 tw14763931846100062938 tw14785953476152505079 tw1484204247613756022 tw14868527173855193322 tw14888967777746656188 tw14933751790894543063 tw14944983038507438776 tw14996216734100646878 tw14996736526294985162 tw15005898076184842306 tw1518514340326285986 tw15205282397096806623 tw15243850323836511550 tw15363129789202813822 tw1537431072828706469 tw15384071534557034054 tw15391088305719614838 tw15448400616519533729 tw15461074686132329748 tw1550637884432549925 tw15538998509731460303 tw15707092699240897181 tw15712835521184243912 tw15808206621591784521 tw15829901919619305636 tw15907080918245233732 tw15978918484837868486 tw1599872201266802008 tw16009724081481638415 tw16033025535794020431 tw16068606228776411215 tw16075856394319984388 tw16096459783279688185 tw16173704119836227726 tw162224404098799470 tw16307634709462167315 tw16308764023776086980 tw16363102803788496256 tw1642470112392668111 tw16459483508769785511 tw1652555002104825092 tw16717919412573671757 tw16882262179878123144 tw1693515219516231598 tw16984357736581141481 tw17000233254039547054 tw17023924646996129709 tw1702531640216338979 tw17043965895268230275 tw17108832542143282652 tw17131375315824200697 tw17417465638367205935 tw17519242909517668093 tw17546686074271116945 tw17574652407658944323 tw17597235288905631486 tw17680548939093616918 tw17685140766756531393 tw17788500689247307744 tw17804784033260880167 tw17847568827372480473 tw17904948345583353616 tw17978479828689791332 tw1798401001388764856 tw18030957643041484233 tw18042956674180772943 tw18052581587168902887 tw1824956921717501338 tw18274033179032321023 tw1834451008604698135 tw18438930314655776355 tw1916109746785049636 tw1977774933151974485 tw2000695869905615593 tw201921885181913176 tw2071259039167170107 tw2082066656678983650 tw2120168785950101359 tw2152632609075571625 tw2200589109340388243 tw2218732964195875556 tw2318493225817312969 tw2327771540844884312 tw2360262098490049589 tw243434573514291007 tw2538737089417114075 tw2539464743741079825 tw2573902917225236588 tw2576473756795539816 tw2617355300720442991 tw2656030424874555520 tw2844711301581101699 tw2882330319637216180 tw2889232125043361035 tw2963618221984327143 tw2997458484030859637 tw3026165923383356090 tw302976501451637904 tw3072641031298052983 tw3117459656677405587 tw3147716732570337513 tw3197677372785211241 tw3249135861667186298 tw3269911452447602518 tw3301487442936341882 tw3321712947321665810 tw3385455000179358277 tw3438575609774548632 tw3440283912237049897 tw3450728776153791530 tw3500692624049371107 tw356311801945366654 tw3837079936228514599 tw383886541237269674 tw3871705216242799252 tw3972237093514050184 tw4047340749899273860 tw4077367472151711105 tw4149533492327035038 tw419581650249595346 tw4203370361476591239 tw4235924431909544192 tw4247345708889189133 tw4279669982707552966 tw4332092290948510121 tw4397585761953333831 tw4422289708140943668 tw4431143354813609600 tw444970585305011008 tw4516289399876663705 tw4523321589164444178 tw4549929611359250678 tw4558813741139156636 tw4623494217772706366 tw4631878953806295203 tw4661870782222976010 tw4687349765702975416 tw4711864606351117542 tw4716356805938939101 tw4731242929143281334 tw4761929417436464691 tw4833611920516965957 tw483775885338562225 tw4873007579303708005 tw4908160817760017497 tw4935000675147943071 tw4937242584629274823 tw4995386546436585237 tw5021917692907277271 tw5069425332524537562 tw5111136966020175610 tw511712595581167406 tw5186371661373738055 tw5190723248090470807 tw5255108176511224105 tw5260260504891561222 tw5333119756722198543 tw5369688674032316496 tw540475420860445405 tw5412752212359382356 tw5439859776339265901 tw5453744528630460358 tw5464339815865093343 tw5464749666891657525 tw5486530826842413087 tw5493484464236831299 tw5555685031764754977 tw5604231269508482942 tw5676512721579705999 tw5689012463229593169 tw5810327749812823746 tw5849535522256641711 tw587021696400487050 tw5873475749580628897 tw588480811666088039 tw5900948581314376487 tw5903176197892094820 tw5917615175935763258 tw5918949143427383271 tw5929250898605449318 tw5938206339538397111 tw598119459406264396 tw5992900619751497597 tw6128393871887988377 tw6185779470094484163 tw6193480377084325999 tw6260498236572246350 tw6263004948935437620 tw6351976343673237228 tw636511219539395794 tw6372299584513751529 tw6460294344973919430 tw6472795682655217277 tw649456427677590113 tw6537239508209017997 tw6558212055859927018 tw6604066990923225245 tw6613605846534434306 tw6751569285165697013 tw6791955682701297845 tw6920459002364943202 tw6987456880772013989 tw7021737019977297699 tw7029954430152486966 tw7068445744310992853 tw7153110902622311312 tw7187301157760697813 tw7213466990026702685 tw7435653301221848152 tw7453604626888054953 tw7472390855257632922 tw7545771827945529466 tw7553090695340573017 tw7564162427587038770 tw7681067496585249630 tw7719463895292887179 tw7857024253236019292 tw7870062959607427514 tw7902078496638510916 tw7970534330819404094 tw8028161803756255178 tw8086639641055547250 tw810798310257872399 tw8114434478534195129 tw8134170379343051786 tw8205065610322899753 tw8226552775549622324 tw8240915560113332448 tw8256487253701117533 tw8311824323717887560 tw8319743787189207340 tw8360131222027703223 tw8376275174323402749 tw8407759546590644910 tw8535360899207726161 tw854717283139086424 tw8601236370809031611 tw8603456782549364477 tw8604158696237150298 tw8665331374169809094 tw8773963296015204739 tw8787440972704192622 tw8788270464751528559 tw8864083475055627791 tw8905024494273246269 tw8932667163797207789 tw8991227751009062046 tw8993188940661440123 tw9025872922413139738 tw9150999418531129911 tw9165767776890612207 tw9257647422778162931 tw9282351482418756638 tw9284566908521378532 tw9362522573606113724 tw942858085028392927 tw9449596303768032672 tw9488070911565705750 tw9558894622570313774 tw9577211400704255948 tw964727488798310563 tw9688896344479790650 tw9690539749765912523 tw9740258461088414920 tw9766940517162354530 tw976975209277491204 tw9790185099283731858 tw9898367898514668301 tw9931585016637261819:True)
set_option maxRecDepth 100000 in
set_option maxHeartbeats 0 in
theorem PySem.Challenge.cw_seamwright_k18_chain_texts_refused_holds : PySem.Challenge.rw_seamwright_k18_chain_texts_refused.Holds := by
 w_on; o_law; k_head; (case hw=>w_witness2)
 k_fill
 refine K18.walk (l:=PySem.Challenge.rw_seamwright_k18_chain_texts_refused) rfl rfl (fun w h Y=>PySem.W.kIn_of Y) ?F
 case F=>
  intro w mg fa h KX G gf;refine' K18.KH KX G gf ?_ ?_ ?_ ?_ ?_ ?_ ?_ ?_ ?_ ?_ ?_ ?_ ?_ ?_ ?_ ?_ ?_ ?_ ?_ ?_ ?_ ?_ ?_ ?_ ?_ ?_ ?_ ?_ ?_ ?_ ?_ ?_ ?_ ?_ ?_ ?_ ?_ ?_ ?_ ?_ ?_ ?_ ?_ ?_ ?_ ?_ ?_ ?_ ?_ ?_ ?_ ?_ ?_ ?_ ?_ ?_ ?_ ?_ ?_ ?_ ?_ ?_ ?_ ?_ ?_ ?_ ?_ ?_ ?_ ?_ ?_ ?_ ?_ ?_ ?_
  all_goals try first | refine' L2.xk ?_ ?_ ?_ ?_ | refine' L2.Nn.mk ?_ | refine' K18.JW ?_ ?_ ?_ ?_ ?_ ?_ ?_ ?_ ?_ ?_ ?_ ?_ ?_ ?_ ?_ ?_ ?_ ?_ ?_ ?_ | refine' L2.Ja ?_ ?_ ?_
  all_goals try first | k_is | kit_is | k_exc
#print axioms PySem.Challenge.cw_seamwright_k18_chain_texts_refused_holds
end
