import PyProof.Rows.All
import Wide.All
import OpenK.AllK
import Wide.FinOn
import Lean
import PyProof.EqAt
import PyProof.EqKinds
import PyProof.TupleCall
import PyProof.Rows.SortRuns
import KE.KSortKey
import KE.KListMore
import KE.KIntText
import KE.KEqDat
import PyProof.Rows.CallKwBuiltin
import PySem.SetTable
import PyProof.Rows.SetFrom
import PyProof.TupleKey
import PyProof.IsRules
import KE.KRevIter
import PyProof.ListRange
import PyProof.TupleOfGen
import PyProof.CollectIter
import PySem.Challenge.RW_seamwright_k08_texts_refused
import PyProof.JoinWalk
import PyProof.Rows.RegReprOcc
import PyProof.MinMaxWalk
import PyProof.SumAny
import PyProof.Rows.CatFin
import PyProof.StationsW
import PyProof.ExcClass3
import OpenK.KOwn
import PyProof.ExcArgsOwn
import PyProof.MeetsStr
import KE.IntTextLaws
import PyProof.FactsAll.set_2
import PyProof.FactsAll.subtypes_5
import KE.KDictList
import KE.KDictSum
open PySem renaming wpAny_bind->Aa,wpAny_pure->Ad,tupleKeyHash->AC,wpAny_field->AR,wpAny_newObj_type->AS,mem_of_lookup->AV,IsTupleKey->AZ,wpAny_holding->A0,wpAny_call_entry->Ba,wpAny_mono->Bb,foldedSetIterable->Be,bootBuiltins->Bh,cellsFrom->Bk
open List renaming length_map->Ab,mem_cons_self->Aj,size_toArray->Am,mem_cons_of_mem->An,getElem?_eq_getElem->Ao,length_cons->Ap,length_append->Aq,getElem?_map->Ar,take_of_length_le->At,map_append->Au,mem_of_getElem?->Az,mem_append_right->AB,length_take->AI,map_map->AK,range->AQ,map_cons->AT,take_append_drop->AX,append_assoc->AY,mem_append_left->A9,filter_append->Bg,lookup_cons->Bj
open PySem.Heap renaming get?_push_of_some->Ac,lt_size->Ah,get?_push_size->Av,get?_update_other->AM,size_update->AO,SameBut->A4,size_push->Bi
open PySem.W renaming Frag->Ae,kitOne->AL
open Array renaming length_toList->Af,getElem?_toList->AD,size_map->A3,toList_append->A7
open Nat renaming le_refl->Ag,ne_of_lt->Al,lt_of_lt_of_le->Ay,le_trans->AA,lt_succ_of_lt->AF,zero_le->AW,zero_add->Bl
open Bool renaming false_eq_true->Ai,false_ne_true->Ax,and_eq_true->AE,and_false->Bd
open Option.some renaming inj->As
open PySem.Txt renaming split->Aw
open PySem.F renaming plainAttrs_str->AG,plainAttrs_list->AU
open PyProof.Rows renaming pendingOf->AH,take_snoc->AN
open PySem.Obj renaming mapSeq->AJ
open PySem.PyData renaming int->A5
open PySem.Heap.SameBut renaming update->A6
open Int renaming le_trans->A8
open PySem.PassesOwn renaming never->Bc
open PySem.NameKind renaming free->Bf
set_option linter.all false
set_option Elab.async false
set_option maxRecDepth 100000
set_option maxHeartbeats 4000000
def δ{p:Prop}(h:p:=by decide +kernel):p:=h
def ω{p:Prop}(h:p:=by omega):p:=h
def ξ{p:Prop}(h:p:=by decide):p:=h
abbrev Ω:=PySem.Value->PySem.Shared->Prop
abbrev Ξ:=List (List Int)
abbrev Ψ:=List (PySem.Addr×PySem.Obj)
local macro_rules|`($s⁻¹)=>`(($s).heap.objs.size)
section
namespace L2
open PySem PySem.Spec PyProof.Rows
abbrev Key:=Sum Int Str
def jf:Key->Value->Bool
 |.inl k,v=>Value.isInt k v
 |.inr x,v=>Value.isStrOf x v
def oU(w:World):Key->Int
 |.inl k=>hashInt k
 |.inr x=>hashStr w x
def aN:∀{k:Key}{v:Value},jf k v=true->(∃i t,k=Sum.inl i/\v=Value.int i t)\/(∃x t,k=Sum.inr x/\v=Value.str x t)
 |.inl i,v,h=>by
  obtain⟨t,e⟩:=Value.isInt_shape (k:=i) (v:=v) h;exact .inl ⟨i,t,rfl,e⟩
 |.inr x,v,h=>by
  obtain⟨t,e⟩:=Value.isStrOf_shape (x:=x) (v:=v) h;exact .inr ⟨x,t,rfl,e⟩
def CD(i:Int)(t:Tok):jf (.inl i) (.int i t)=true:=by simp[jf,Value.isInt]
def CF(x:Str)(t:Tok):jf (.inr x) (.str x t)=true:=by simp[jf,Value.isStrOf]
def CG(a b:Int):decide ((Sum.inl a:Key)=Sum.inl b)=(a==b):=by
 by_cases e:a=b
 ·subst e;simp
 ·have h:¬(Sum.inl a:Key)=Sum.inl b:=fun q=>e (Sum.inl.inj q)
  rw[decide_eq_false h];exact(beq_eq_false_iff_ne.mpr e).symm
def CH(a b:Str):decide ((Sum.inr a:Key)=Sum.inr b)=decide (a=b):=by
 by_cases e:a=b
 ·subst e;simp
 ·have h:¬(Sum.inr a:Key)=Sum.inr b:=fun q=>e (Sum.inr.inj q)
  rw[decide_eq_false h,decide_eq_false e]
def CI(a:Int)(b:Str):decide ((Sum.inl a:Key)=Sum.inr b)=false:=decide_eq_false (fun q=>nomatch q)
def CJ(a:Str)(b:Int):decide ((Sum.inr a:Key)=Sum.inl b)=false:=decide_eq_false (fun q=>nomatch q)
def zH(prog:Program)(w:World):PySem.KeyKind prog w Key where
 is:=jf
 hash:=oU w
 inj:=fun v a b d hb=>by
  rcases aN d with ⟨i,t,rfl,rfl⟩|⟨x,t,rfl,rfl⟩
  ·rcases aN hb with ⟨j,u,rfl,e⟩|⟨y,u,rfl,e⟩
   ·injection e with e1 _;rw[e1]
   ·exact nomatch e
  ·rcases aN hb with ⟨j,u,rfl,e⟩|⟨y,u,rfl,e⟩
   ·exact nomatch e
   ·injection e with e1 _;rw[e1]
 byValue:=fun k v h=>by
  rcases aN h with ⟨i,t,rfl,rfl⟩|⟨x,t,rfl,rfl⟩<;>rfl
 pyHash:=fun c h=>by
  rcases aN c with ⟨i,t,rfl,rfl⟩|⟨x,t,rfl,rfl⟩
  ·exact wpAny_pyHash_int h
  ·exact wpAny_pyHash_str h
 eqBool:=fun hu c h=>by
  rcases aN hu with ⟨i,t,rfl,rfl⟩|⟨x,t,rfl,rfl⟩
  ·rcases aN c with ⟨j,u,rfl,rfl⟩|⟨y,u,rfl,rfl⟩
   ·rw[CG] at h;exact wpAny_eqBool_int h
   ·rw[CI] at h;exact SeqAt.EqAt.int_str i t y u _ _ _ _ h
  ·rcases aN c with ⟨j,u,rfl,rfl⟩|⟨y,u,rfl,rfl⟩
   ·rw[CJ] at h;exact SeqAt.EqAt.str_int x t j u _ _ _ _ h
   ·rw[CH] at h;exact wpAny_eqBool_str h
 «strs»:=fun k x t v h=>by
  rcases aN h with ⟨i,u,rfl,e⟩|⟨y,u,rfl,e⟩
  ·exact nomatch e
  ·injection e with e1 _
   subst e1;cases v<;>rfl
def oW(prog:Program)(w:World)(i:Int)(t:Tok):(zH prog w).is (.inl i) (.int i t)=true:=CD i t
def CK(prog:Program)(w:World)(x:Str)(t:Tok):(zH prog w).is (.inr x) (.str x t)=true:=CF x t
inductive V where
 |non|bl (b:Bool)|int (i:Int)|str (x:Str)|byt (b:Array UInt8)|flt (b:UInt64)|ref (a:Addr)|ty (n:String)
 deriving DecidableEq
def RelV:V->Value->Prop
 |.non,u=>u=Value.none
 |.bl b,u=>u=Value.bool b
 |.int i,u=>∃t,u=Value.int i t
 |.str x,u=>∃t,u=Value.str x t
 |.byt b,u=>∃t,u=Value.bytes b t
 |.flt b,u=>∃t,u=Value.float b t
 |.ref a,u=>u=Value.ref a
 |.ty n,u=>u=Value.type n
abbrev Vals:List V->List Value->Prop:=Paired RelV
def Vals.length{xs:List V}{us:List Value}(r:Vals xs us):xs.length=us.length:=Paired.length r
def Vals.get:∀{xs:List V}{us:List Value}{i:Nat}{x:V},Vals xs us->xs[i]?=some x->∃u,us[i]?=some u/\RelV x u
 |_,_,_,_,.nil,e=>by simp at e
 |_,_,0,_,.cons r _,e=>by simp at e;subst e;exact⟨_,rfl,r⟩
 |_,_,i+1,x,.cons _ t,e=>by
  obtain⟨u,h1,h2⟩:=Vals.get (i:=i) (x:=x) t (by simpa using e);exact⟨u,by simpa using h1,h2⟩
def Vals.set{x:V}{u:Value}(r:RelV x u):∀{xs:List V}{us:List Value}(i:Nat),Vals xs us->Vals (xs.set i x) (us.set i u)
 |_,_,_,.nil=>.nil
 |_,_,0,.cons _ t=>.cons r t
 |_,_,i+1,.cons q t=>.cons q (Vals.set r i t)
def Vals.append{xs ys:List V}{us ws:List Value}(h:Vals xs us)(g:Vals ys ws):Vals (xs++ys) (us++ws):=by
 induction h with
 |nil=>exact g
 |cons r _ ih=>exact .cons r ih
def Vals.take:∀{xs:List V}{us:List Value}(n:Nat),Vals xs us->Vals (xs.take n) (us.take n)
 |_,_,0,_=>.nil
 |_,_,_+1,.nil=>.nil
 |_,_,n+1,.cons r t=>.cons r (Vals.take n t)
def Vals.drop:∀{xs:List V}{us:List Value}(n:Nat),Vals xs us->Vals (xs.drop n) (us.drop n)
 |_,_,0,r=>r
 |_,_,_+1,.nil=>.nil
 |_,_,n+1,.cons _ t=>Vals.drop n t
def RelO:Option V->Option Value->Prop
 |some v,some u=>RelV v u
 |none,none=>True
 |_,_=>False
def KV{κ:Type}:List (κ×V)->List (κ×Value)->Prop:=Paired fun(p:κ×V)(q:κ×Value)=>p.1=q.1/\RelV p.2 q.2
def kV:Key->V
 |.inl i=>.int i
 |.inr x=>.str x
inductive HO where
 |lst (xs:List V)
 |tup (xs:List V)
 |dK (kvs:List (Key×V))|dT (kvs:List (List Key×V))
 |set (S:Int->Bool) (n:Nat)
 |ins (C dx:Addr) (fs:List (Str×V))
 |own (x:Addr)
 |xd (fs:List (Str×V))
 |met (f x:Addr)
 |rng (lo hi:Int)
 |frz (o:Obj) (u:HO)
 |tbl (ps:Array Value)
 |ext (φ:Heap->Prop)
abbrev Hp:=Addr->Option HO
def upd(H:Hp)(a:Addr)(o:HO):Hp:=fun b=>if b=a then some o else H b
def am{H:Hp}{a:Addr}{o:HO}:upd H a o a=some o:=by unfold upd;rw[if_pos rfl]
def zi{H:Hp}{a b:Addr}{o:HO}(h:b≠a):upd H a o b=H b:=by unfold upd;rw[if_neg h]
def fH{H:Hp}{a b:Addr}{o u:HO}(h:H a=some o)(h':H b=some u)(d:o≠u):a≠b:=by
 intro e;subst e;rw[h] at h';exact d (As h')
def zj{H:Hp}{a b:Addr}{o:HO}(h:H a=some o)(h':H b=none):a≠b:=by
 intro e;subst e;rw[h] at h';cases h'
section
variable(P:Program)(w:World)
def zQ(H:Hp)(h:Heap)(a:Addr):HO->Prop
 |.lst xs=>xs.length<=sizeLine/\∃(c:List Value)(n:Nat),Vals xs c/\h.get? a=some {cls:=.type "list",data:=.seq c.toArray n}
 |.tup xs=>xs.length<=sizeLine/\∃c:List Value,Vals xs c/\IsTup h a c.toArray
 |.dK kvs=>kvs.length<=sizeLine/\(a==sysModules)=false/\∃vs,KV kvs vs/\h.DictOf (zH P w) a vs
 |.dT kvs=>kvs.length<=sizeLine/\(a==sysModules)=false/\∃xs:List (List Key×Addr×Value),
   Paired (fun(p:List Key×V)(q:List Key×Addr×Value)=>p.1=q.1/\H q.2.1=some (.tup (p.1.map kV))/\RelV p.2 q.2.2) kvs xs/\
   ∃o es ep,h.get? a=some o/\o.ExactDict/\o.data=.dict es ep/\es.toList=xs.map (entryOfKey (tupleKind (zH P w)))/\(xs.map (·.1)).Nodup
 |.set S n=>h.SetOf (intKind P w) a S n
 |.ins C dx fs=>H dx=some (.own a)/\fs.length<=1000/\dx≠a/\h.get? a=some (PySem.W.instObj C dx)/\
   ∃mA,h.Ns1 dx mA/\(∀f,RelO (fs.lookup f) (mA f))/\PySem.Within mA (fs.map (·.1))
 |.own _=>∃o,h.get? a=some o
 |.xd fs=>∃mA,h.Ns1 a mA/\∀f,RelO (fs.lookup f) (mA f)
 |.rng lo hi=>∃t u v,h.get? a=some {cls:=.type "range",data:=.fields #[.int lo t,.int hi u,.int 1 v]}
 |.frz o u=>h.get? a=some o/\zQ H h a u
 |.tbl ps=>h.get? a=some {cls:=.none,data:=.fields ps}
 |.met f x=>h.get? a=some (PySem.W.methodObj (.ref f) (.ref x))
 |.ext φ=>φ h/\(∃o,h.get? a=some o)/\∀h1 h2:Heap,φ h1->(∀o,h1.get? a=some o->h2.get? a=some o)->φ h2
def HOk(H:Hp)(h:Heap):Prop:=∀a o,H a=some o->zQ P w H h a o
end
section
variable{P:Program}{w:World}{H H':Hp}{h h':Heap}{a:Addr}{o:HO}
def zQ.lt(x:zQ P w H h a o):a<h.objs.size:=by
 cases o with
 |lst xs=>obtain⟨_,_,_,_,e⟩:=x;exact Ah e
 |tup xs=>obtain⟨_,_,_,p⟩:=x;exact p.lt
 |dK kvs=>obtain⟨_,_,_,_,o,_,_,e,_⟩:=x;exact Ah e
 |dT kvs=>obtain⟨_,_,_,_,o,_,_,e,_⟩:=x;exact Ah e
 |set S n=>obtain⟨o,_,_,_,e,_⟩:=x;exact Ah e
 |ins C dx fs=>obtain⟨_,_,_,e,_⟩:=x;exact Ah e
 |own y=>obtain⟨_,e⟩:=x;exact Ah e
 |xd fs=>obtain⟨_,⟨_,_,_,e,_⟩,_⟩:=x;exact Ah e
 |rng lo hi=>obtain⟨_,_,_,e⟩:=x;exact Ah e
 |frz ob u=>obtain⟨e,_⟩:=x;exact Ah e
 |tbl ps=>exact Ah (show h.get? a=some _ from x)
 |met f y=>exact Ah (show h.get? a=some _ from x)
 |ext φ=>obtain⟨_,⟨_,e⟩,_⟩:=x;exact Ah e
def Paired.mapP{c d:Type}{F G:c->d->Prop}{l₁:List c}{l₂:List d}(h:Paired F l₁ l₂)(f:∀a b,F a b->G a b):Paired G l₁ l₂:=by
 induction h with
 |nil=>exact .nil
 |cons r _ ih=>exact .cons (f _ _ r) ih
def zQ.stay(x:zQ P w H h a o)(k:∀b u,(b=a\/H b=some (.own a))->h.get? b=some u->h'.get? b=some u)(l:∀b,H b=some (.own a)->H' b=some (.own a))(ht:∀b xs,H b=some (.tup xs)->H' b=some (.tup xs)):zQ P w H' h' a o:=by
 induction o with
 |lst xs=>obtain⟨z,i,n,r,e⟩:=x;exact⟨z,i,n,r,k _ _ (.inl rfl) e⟩
 |tup xs=>obtain⟨z,i,r,g,e,c⟩:=x;exact⟨z,i,r,g,k _ _ (.inl rfl) e,c⟩
 |dK kvs=>obtain⟨z,y,vs,r,g,es,ep,e,c⟩:=x;exact⟨z,y,vs,r,g,es,ep,k _ _ (.inl rfl) e,c⟩
 |dT kvs=>
  obtain⟨z,y,xs,r,g,es,ep,e,c⟩:=x;exact⟨z,y,xs,Paired.mapP r fun p q z=>⟨z.1,ht _ _ z.2.1,z.2.2⟩,g,es,ep,k _ _ (.inl rfl) e,c⟩
 |set S n=>obtain⟨g,es,ep,t,e,c⟩:=x;exact⟨g,es,ep,t,k _ _ (.inl rfl) e,c⟩
 |ins C dx fs=>
  obtain⟨d,z,ne,e,mA,⟨j,es,ep,e2,c⟩,r⟩:=x;exact⟨l _ d,z,ne,k _ _ (.inl rfl) e,mA,⟨j,es,ep,k _ _ (.inr d) e2,c⟩,r⟩
 |own y=>obtain⟨g,e⟩:=x;exact⟨g,k _ _ (.inl rfl) e⟩
 |xd fs=>obtain⟨mA,⟨j,es,ep,e,c⟩,r⟩:=x;exact⟨mA,⟨j,es,ep,k _ _ (.inl rfl) e,c⟩,r⟩
 |rng lo hi=>obtain⟨t,u,v,e⟩:=x;exact⟨t,u,v,k _ _ (.inl rfl) e⟩
 |frz g u ih=>obtain⟨e,q⟩:=x;exact⟨k _ _ (.inl rfl) e,ih q⟩
 |tbl ps=>
  have e:h.get? a=some {cls:=.none,data:=.fields ps}:=x;show h'.get? a=some {cls:=.none,data:=.fields ps};exact k a _ (.inl rfl) e
 |met f y=>
  have e:h.get? a=some (PySem.W.methodObj (.ref f) (.ref y)):=x;show h'.get? a=some (PySem.W.methodObj (.ref f) (.ref y));exact k a _ (.inl rfl) e
 |ext φ=>obtain⟨p,⟨o,e⟩,st⟩:=x;exact⟨st _ _ p fun o q=>k _ _ (.inl rfl) q,⟨o,k _ _ (.inl rfl) e⟩,st⟩
def HOk.lt(x:HOk P w H h)(e:H a=some o):a<h.objs.size:=(x a o e).lt
def HOk.fresh(x:HOk P w H h)(e:h.objs.size<=a):H a=none:=by
 cases q:H a with
 |none=>rfl
 |some u=>exact absurd (Ay (x.lt q) e) (Nat.lt_irrefl _)
def HOk.kept(x:HOk P w H h)(k:∀b u,h.get? b=some u->h'.get? b=some u):HOk P w H h':=fun a o e=>
 (x a o e).stay (fun b u _ q=>k b u q) (fun _ q=>q) fun _ _ q=>q
def HOk.laid(x:HOk P w H h)(k:∀b u,h.get? b=some u->h'.get? b=some u)(hp:h.objs.size<=a)(new:zQ P w (upd H a o) h' a o):HOk P w (upd H a o) h':=fun b u e=>by
 have d:=x.fresh hp
 by_cases hb:b=a
 ·subst hb;rw[am] at e;cases e;exact new
 ·rw[zi hb] at e
  exact(x b u e).stay (fun c v _ q=>k c v q) (fun c q=>by rw[zi (zj q d)];exact q) fun c xs q=>by rw[zi (zj q d)];exact q
end
def Rd(H:Hp)(a:Addr)(u:HO):Prop:=H a=some u\/∃o,H a=some (.frz o u)
def Rd.of{H:Hp}{a:Addr}{u:HO}(h:H a=some u):Rd H a u:=.inl h
def Rd.ok{P:Program}{w:World}{H:Hp}{h:Heap}{a:Addr}{u:HO}(r:Rd H a u)(x:HOk P w H h):zQ P w H h a u:=by
 rcases r with r|⟨o,r⟩
 ·exact x a u r
 ·obtain⟨_,q⟩:=x a _ r
  exact q
def j5:Option HO->Prop
 |some (.lst _)=>True
 |some (.dK _)=>True
 |some (.dT _)=>True
 |some (.set _ _)=>True
 |some (.ins _ _ _)=>True
 |some (.ext _)=>True
 |_=>False
section
variable{P:Program}{w:World}{H:Hp}{h h':Heap}{x e:Addr}{o':HO}
def HOk.write(ok:HOk P w H h)(g:j5 (H x))(he:e=x\/H e=some (.own x))(k:∀b u,b≠e->h.get? b=some u->h'.get? b=some u)(l:∃u,h'.get? e=some u)(new:zQ P w (upd H x o') h' x o'):HOk P w (upd H x o') h':=fun b u q=>by
 have d:∀c y,H c=some (.own y)->c≠x:=fun c y r z=>by subst z;rw[r] at g;exact g
 have f:∀c xs,H c=some (.tup xs)->c≠x:=fun c xs r z=>by subst z;rw[r] at g;exact g
 by_cases hb:b=x
 ·subst hb;rw[am] at q;cases q;exact new
 ·rw[zi hb] at q
  by_cases a:b=e
  ·have i:H b=some (.own x):=by
    rcases he with z|z
    ·exact absurd (a.trans z) hb
    ·rw[a];exact z
   rw[q] at i;cases i;obtain⟨v,j⟩:=l;exact⟨v,by rw[a];exact j⟩
  ·refine(ok b u q).stay (fun c v hc r=>k c v ?_ r) (fun c r=>by rw[zi (d c b r)];exact r) fun c xs r=>by rw[zi (f c xs r)];exact r
   rcases hc with rfl|hc
   ·exact a
   ·rintro rfl
    rcases he with z|z
    ·exact d c b hc z
    ·rw[hc] at z;cases z;exact hb rfl
end
structure Un(fs ex:List Addr)(H H':Hp)(h h':Heap):Prop where
 keep:∀b o,h.get? b=some o->H b=none->b∉fs->b∉ex->h'.get? b=some o
 slot:∀b o,h.get? b=some o->H b=none->b∈fs->b∉ex->∃sl,h'.get? b=some {o with slots:=sl}
 free:∀b o,h.get? b=some o->H b=none->b∉ex->H' b=none
 there:∀b o,h.get? b=some o->b∉ex->∃o',h'.get? b=some o'
 tups:∀b xs,H b=some (.tup xs)->H' b=some (.tup xs)
 frzs:∀b o u,H b=some (.frz o u)->H' b=some (.frz o u)
 tbls:∀b ps,H b=some (.tbl ps)->∃more,H' b=some (.tbl (ps++more))
section
variable{fs qW ex vg:List Addr}{H H1 H2:Hp}{h h1 h2 h':Heap}{a x e:Addr}{o:HO}
def Un.any(u:Un fs ex H H1 h h1){b:Addr}{a:Obj}(q:h.get? b=some a)(n:H b=none)(hx:b∉ex):∃c,h1.get? b=some {a with slots:=c}:=by
 by_cases hb:b∈fs
 ·exact u.slot b a q n hb hx
 ·exact⟨a.slots,u.keep b a q n hb hx⟩
def Un.kept(k:∀b u,h.get? b=some u->h'.get? b=some u):Un fs ex H H h h':=
 ⟨fun b a q _ _ _=>k b a q,fun b a q _ _ _=>⟨a.slots,k b a q⟩,fun _ _ _ n _=>n,fun b a q _=>⟨a,k b a q⟩,fun _ _ q=>q,fun _ _ _ q=>q,fun _ ps q=>⟨#[],by rw[q];simp⟩⟩
def Un.refl:Un fs ex H H h h:=Un.kept fun _ _ q=>q
def Un.laid(k:∀b u,h.get? b=some u->h'.get? b=some u)(hp:h.objs.size<=a)(c:H a=none):Un fs ex H (upd H a o) h h' where
 keep:=fun b u q _ _ _=>k b u q
 slot:=fun b u q _ _ _=>⟨u.slots,k b u q⟩
 free:=fun b u q n _=>by rw[zi (Al (Ay (Ah q) hp))];exact n
 there:=fun b u q _=>⟨u,k b u q⟩
 tups:=fun b xs q=>by rw[zi (zj q c)];exact q
 frzs:=fun b u xs q=>by rw[zi (zj q c)];exact q
 tbls:=fun b ps q=>⟨#[],by rw[zi (zj q c),q];simp⟩
def Un.write(c:j5 (H x))(he:e=x\/H e=some (.own x))(k:∀b u,b≠e->h.get? b=some u->h'.get? b=some u)(d:∃u,h'.get? e=some u):Un fs ex H (upd H x o) h h':=by
 have hx:∀b,H b=none->b≠x:=fun b n z=>by subst z;rw[n] at c;exact c
 have hb:∀b,H b=none->b≠e:=fun b n z=>by
  subst z;rcases he with r|r
  ·exact hx b n r
  ·rw[n] at r;cases r
 have hm:∀b u,H b=some u->¬j5 (some u)->b≠x:=fun b u q nm z=>by subst z;rw[q] at c;exact nm c
 refine⟨fun b u q n _ _=>k b u (hb b n) q,fun b u q n _ _=>⟨u.slots,k b u (hb b n) q⟩,fun b u q n _=>by rw[zi (hx b n)];exact n,fun b u q _=>?_,
  fun b xs q=>by rw[zi (hm b _ q fun z=>z)];exact q,fun b u xs q=>by rw[zi (hm b _ q fun z=>z)];exact q,fun b ps q=>⟨#[],by rw[zi (hm b _ q fun z=>z),q];simp⟩⟩
 by_cases a:b=e
 ·subst a;exact d
 ·exact⟨u,k b u a q⟩
end
def mC(h:Heap)(H:Hp):List Addr:=(AQ h.objs.size).filter fun a=>(H a).isSome
def c5(h:Heap)(H:Hp):Heap:=PySem.W.hideAll h (mC h H)
def CL(h:Heap)(H:Hp):(c5 h H).objs.size=h.objs.size:=PySem.W.hideAll_size _ _
def CM{h:Heap}{H:Hp}{b:Addr}{o:Obj}(e:h.get? b=some o)(n:H b=none):(c5 h H).get? b=some o:=
 PySem.W.hideAll_get _ e fun hm=>by
  have q:(H b).isSome=true:=(List.mem_filter.mp hm).2;rw[n] at q;simp at q
def CN{h:Heap}{H:Hp}{b:Addr}{o:Obj}(e:(c5 h H).get? b=some o):h.get? b=some o/\H b=none:=by
 have a:h.get? b=some o:=PySem.W.of_hideAll (mC h H) e;refine⟨a,?_⟩;cases q:H b with
 |none=>rfl
 |some x=>
  have hm:b∈mC h H:=List.mem_filter.mpr ⟨List.mem_range.mpr (Ah a),by simp[q]⟩;have z:(c5 h H).get? b=none:=PySem.W.hideAll_none (mC h H) hm;rw[z] at e;cases e
def CO(g h:Heap)(L:Addr):Ψ:=(AQ h.objs.size).filterMap fun a=>if a=L\/(g.get? a).isSome=true then none else(h.get? a).map fun o=>(a,o)
def rest(g h:Heap)(L d:Addr):Ψ:=(CO g h L).filter fun p=>decide (p.1≠d)
structure Mod(K:Ae)(mg:Str->Option Value)(base:Heap):Prop where
 kin:K.In base
 glob:base.Ns mainGlobals mg
 blt:∃mb,base.Ns builtinsNs mb/\∀x:Str,x≠"__name__"->mb x=Bh x
 nolimit:base.NoLimit
structure Cx where
 prog:Program
 w:World
 K:Ae
 mg:Str->Option Value
 base:Heap
 A:Around
 N:List Str
 s₀:Shared
 H₀:Hp
 env:Env
 outer:List Env
 stack:List Env
 ex:List Addr
 fn:Str->Bool
 calm:Bool
 pn:Ψ
 xe:Ω
def frs(l:List Env):List Addr:=l.filterMap (·.frame)
abbrev Cx.fs(X:Cx):List Addr:=frs X.outer
def ij(a:Scope)(x:Str):Prop:=a.names.lookup x=some .local\/a.names.lookup x=some .cell\/a.names.lookup x=some .free
def Loc(a:Scope)(x:Str):Prop:=a.names.lookup x=some .local\/a.names.lookup x=some .cell
def Look(env:Env)(h:Heap)(m:Str->Option Value)(x:Str)(u:Value):Prop:=
 (env.kindOf x=some .local/\m x=some u)\/((env.kindOf x=some .cell\/env.kindOf x=some .free)/\∃c,env.cells.lookup x=some c/\h.IsCell c (some u))
structure Cx.Ok(X:Cx):Prop where
 mod:Mod X.K X.mg X.base
 kind:X.env.scope.kind=.function
 glob:X.env.globals=mainGlobals
 blt:X.env.builtins=builtinsNs
 above:X.s₀⁻¹<=X.env.locals
 inj:∀x y c,X.env.cells.lookup x=some c->X.env.cells.lookup y=some c->x=y
 has:∀x,(X.env.kindOf x=some .cell\/X.env.kindOf x=some .free)->∃c,X.env.cells.lookup x=some c
 cab:∀x c,X.fn x=true->X.env.cells.lookup x=some c->X.s₀⁻¹<=c
 hd:X.calm=true->X.A.handled=none
 frames:X.A.frames=some X.stack
 stk:X.stack=X.outer\/(X.stack=X.env::X.outer/\X.env.frame=some X.env.locals)
 exf:∀b∈X.ex,b≠X.env.locals/\∀x c,X.env.cells.lookup x=some c->c≠b
 bs:∀b o,X.base.get? b=some o->X.s₀.heap.get? b=some o/\X.H₀ b=none
 bsz:X.base.objs.size<=X.s₀⁻¹
 noex:∀b o,X.base.get? b=some o->b∉X.ex
 exfs:∀b∈X.ex,b∉X.fs
 funs:X.s₀.heap.FunFrames X.base X.outer
 frf:∀b∈X.fs,X.H₀ b=none
structure Inv(X:Cx)(aa:Ψ)(σ:List (Option V))(H:Hp)(s:Shared):Prop where
 ok:X.Ok
 os:s.os=X.s₀.os
 bare:AllBare s.gens
 base:Un X.fs X.ex X.H₀ H X.s₀.heap s.heap
 loc:∃m,s.heap.Ns X.env.locals m/\∀(i:Nat)(x:Str)(v:V),X.N[i]?=some x->σ[i]?=some (some v)->ij X.env.scope x->∃u,RelV v u/\Look X.env s.heap m x u
 cell:∀x c,X.env.cells.lookup x=some c->∃v,s.heap.IsCell c v
 free:H X.env.locals=none
 freeC:∀x c,X.env.cells.lookup x=some c->H c=none
 pin:∀p∈X.pn++aa,s.heap.get? p.1=some p.2/\H p.1=none/\p.1≠X.env.locals/\p.1∉X.fs/\∀v,p.2.data≠.cell v
 hok:HOk X.prog X.w H s.heap
 len:σ.length=X.N.length
section
variable{X:Cx}{aa:Ψ}{σ:List (Option V)}{H H':Hp}{s:Shared}{h':Heap}
def Cx.Ok.nofr(ok:X.Ok){b:Addr}{o:Obj}(e:X.base.get? b=some o):b∉X.fs:=fun hb=>by
 have:=(ok.funs.mem hb).1;rw[e] at this;cases this
def Inv.bs(I:Inv X aa σ H s):∀b o,X.base.get? b=some o->s.heap.get? b=some o/\H b=none:=fun b o e=>
 ⟨I.base.keep b o (I.ok.bs b o e).1 (I.ok.bs b o e).2 (I.ok.nofr e) (I.ok.noex b o e),I.base.free b o (I.ok.bs b o e).1 (I.ok.bs b o e).2 (I.ok.noex b o e)⟩
def Inv.bk(I:Inv X aa σ H s):∀b o,X.base.get? b=some o->s.heap.get? b=some o:=fun b o e=>(I.bs b o e).1
def Inv.mod(I:Inv X aa σ H s):Mod X.K X.mg X.base:=I.ok.mod
def Inv.kIn(I:Inv X aa σ H s):X.K.In s.heap:=I.ok.mod.kin.keeps I.bk
def Inv.nolimit(I:Inv X aa σ H s):s.heap.NoLimit:=I.ok.mod.nolimit.keeps I.bk
def Inv.fr(I:Inv X aa σ H s):∃m,Fr X.base X.env.locals s.heap m:=
 let ⟨m,hn,_⟩:=I.loc
 ⟨m,hn,I.bk,AA I.ok.bsz I.ok.above⟩
def Inv.lt(I:Inv X aa σ H s):X.env.locals<s⁻¹:=let ⟨_,hn,_⟩:=I.loc;hn.lt
def Inv.sz(I:Inv X aa σ H s):X.s₀⁻¹<=s⁻¹:=AA I.ok.above (Nat.le_of_lt I.lt)
def Inv.nofs(I:Inv X aa σ H s){a:Addr}(h:s⁻¹<=a):a∉X.fs:=fun hb=>by
 obtain⟨_,o,c,_⟩:=I.ok.funs.mem hb;exact absurd (Ay (Ah c) (AA I.sz h)) (Nat.lt_irrefl _)
def Inv.cne(I:Inv X aa σ H s):∀x c,X.env.cells.lookup x=some c->c≠X.env.locals:=fun x c e z=>by
 obtain⟨v,o,d,hd⟩:=I.cell x c e;obtain⟨m,⟨o',es,ep,f,a,_⟩,_⟩:=I.loc;rw[z,f] at d;cases d;rw[a] at hd;cases hd
def Inv.funs(I:Inv X aa σ H s):s.heap.FunFrames X.base X.outer:=by
 have all:∀(l:List Env),(∀b∈frs l,b∈X.fs)->X.s₀.heap.FunFrames X.base l->s.heap.FunFrames X.base l:=by
  intro l
  induction l with
  |nil=>intro _ _;trivial
  |cons env r ih=>
   intro hs c;obtain⟨hk,⟨L,o,hf,d,f,hd⟩,hr⟩:=c;have a:L∈X.fs:=hs L (by unfold frs;rw[List.filterMap_cons,hf];exact Aj);obtain⟨g,e⟩:=I.base.slot L o f (I.ok.frf L a) a fun z=>I.ok.exfs L z a;exact⟨hk,⟨L,_,hf,d,e,hd⟩,ih (fun b hb=>hs b (by unfold frs;rw[List.filterMap_cons,hf];exact An _ hb)) hr⟩
 exact all X.outer (fun _ hb=>hb) I.ok.funs
def Inv.stack(I:Inv X aa σ H s):s.heap.FunFrames X.base X.stack:=by
 rcases I.ok.stk with e|⟨e,hf⟩
 ·rw[e];exact I.funs
 ·rw[e]
  obtain⟨m,a,_⟩:=I.loc;refine .cons (by rw[I.ok.kind];decide) hf a ?_ I.funs;exact Heap.get?_none_of_le (AA I.ok.bsz I.ok.above)
def Inv.stkSub(I:Inv X aa σ H s):∀b∈frs X.stack,b∈X.env.locals::X.fs:=fun b hb=>by
 rcases I.ok.stk with e|⟨e,hf⟩
 ·rw[e] at hb;exact An _ hb
 ·rw[e] at hb
  unfold frs at hb;rw[List.filterMap_cons,hf] at hb;exact hb
def Inv.stkFree(I:Inv X aa σ H s):∀b∈frs X.stack,H b=none:=fun b hb=>by
 rcases List.mem_cons.mp (I.stkSub b hb) with e|hb
 ·rw[e];exact I.free
 ·obtain⟨_,o,a,_⟩:=I.ok.funs.mem hb
  exact I.base.free b o a (I.ok.frf b hb) fun z=>I.ok.exfs b z hb
def Inv.step{g':Array GenState}{t':Nat}{d':Drawn}{ch:List Addr}(I:Inv X aa σ H s)(h:∀b∈ch,(b∈X.ex\/X.s₀⁻¹<=b)/\b≠X.env.locals/\(∀x c,X.env.cells.lookup x=some c->c≠b)/\∀p∈X.pn++aa,p.1≠b)(keep:∀b o,b≠X.env.locals->b∉X.fs->b∉ch->s.heap.get? b=some o->H b=none->h'.get? b=some o)(slot:∀b o,b≠X.env.locals->b∈X.fs->b∉ch->s.heap.get? b=some o->H b=none->∃A,h'.get? b=some {o with slots:=A})(free:∀b o,b∉ch->s.heap.get? b=some o->H b=none->H' b=none)(there:∀b o,b∉ch->s.heap.get? b=some o->∃o',h'.get? b=some o')(tups:∀b xs,H b=some (.tup xs)->H' b=some (.tup xs))(frzs:∀b o u,H b=some (.frz o u)->H' b=some (.frz o u))(tbls:∀b ps,H b=some (.tbl ps)->∃more,H' b=some (.tbl (ps++more)))(ns:∀m,s.heap.Ns X.env.locals m->h'.Ns X.env.locals m)(C:HOk X.prog X.w H' h')(L:AllBare g'):Inv X aa σ H' {s with heap:=h',gens:=g',drawn:=d',toks:=t'}:=by
 have j:∀b o,X.s₀.heap.get? b=some o->b≠X.env.locals:=fun b o e=>Al (Ay (Ah e) I.ok.above);have y:∀b o,X.s₀.heap.get? b=some o->b∉X.ex->b∉ch:=fun b o e hx hb=>by
  rcases(h b hb).1 with z|z
  ·exact hx z
  ·exact absurd (Ay (Ah e) z) (Nat.lt_irrefl _)
 have a:∀x c,X.env.cells.lookup x=some c->∀v,s.heap.IsCell c v->h'.IsCell c v:=fun x c e v ⟨o,g,hd⟩=>by
  have f:c∉ch:=fun z=>(h c z).2.2.1 x c e rfl
  by_cases hc:c∈X.fs
  ·obtain⟨A,q⟩:=slot c o (I.cne x c e) hc f g (I.freeC x c e)
   exact⟨_,q,hd⟩
  ·exact⟨o,keep c o (I.cne x c e) hc f g (I.freeC x c e),hd⟩
 refine⟨I.ok,I.os,L,⟨fun b o e n hb hx=>?_,fun b o e n hb hx=>?_,fun b o e n hx=>?_,fun b o e hx=>?_,fun b xs e=>tups b xs (I.base.tups b xs e),fun b o xs e=>frzs b o xs (I.base.frzs b o xs e),fun b ps e=>?_⟩,?_,fun x c e=>?_,?_,fun x c e=>?_,fun p hp=>?_,C,I.len⟩
 ·exact keep b o (j b o e) hb (y b o e hx) (I.base.keep b o e n hb hx) (I.base.free b o e n hx)
 ·obtain⟨A,e1⟩:=I.base.slot b o e n hb hx
  obtain⟨E,e2⟩:=slot b _ (j b o e) hb (y b o e hx) e1 (I.base.free b o e n hx);exact⟨E,e2⟩
 ·obtain⟨o',e1⟩:=I.base.there b o e hx
  exact free b o' (y b o e hx) e1 (I.base.free b o e n hx)
 ·obtain⟨o',e1⟩:=I.base.there b o e hx
  exact there b o' (y b o e hx) e1
 ·obtain⟨F,e1⟩:=I.base.tbls b ps e
  obtain⟨m2,e2⟩:=tbls b _ e1;exact⟨F++m2,by rw[e2,Array.append_assoc]⟩
 ·obtain⟨m,G,J⟩:=I.loc
  refine⟨m,ns m G,fun i x v e1 e2 e3=>?_⟩;obtain⟨u,r,l⟩:=J i x v e1 e2 e3;refine⟨u,r,?_⟩;rcases l with l|⟨k,c,e,z⟩
  ·exact .inl l
  ·exact .inr ⟨k,c,e,a x c e _ z⟩
 ·obtain⟨v,z⟩:=I.cell x c e
  exact⟨v,a x c e v z⟩
 ·obtain⟨m,⟨o,_,_,g,_⟩,_⟩:=I.loc
  exact free _ o (fun z=>(h _ z).2.1 rfl) g I.free
 ·obtain⟨v,o,g,hd⟩:=I.cell x c e
  exact free c o (fun z=>(h c z).2.2.1 x c e rfl) g (I.freeC x c e)
 ·obtain⟨e,n,ne,D,d⟩:=I.pin p hp
  have f:p.1∉ch:=fun z=>(h p.1 z).2.2.2 p hp rfl;exact⟨keep p.1 p.2 ne D f e n,free p.1 p.2 f e n,ne,D,d⟩
def Inv.un{t':Nat}(I:Inv X aa σ H s)(u:Un X.fs [] H H' s.heap h')(a:HOk X.prog X.w H' h'):Inv X aa σ H' {s with heap:=h',toks:=t'}:=by
 obtain⟨m,⟨o,es,ep,c,r⟩,_⟩:=id I.loc;obtain⟨j,f⟩:=u.any c I.free (by simp);exact I.step (g':=s.gens) (d':=s.drawn) (ch:=[]) (fun _ z=>nomatch z) (fun b o _ hb _ e n=>u.keep b o e n hb (by simp)) (fun b o _ hb _ e n=>u.slot b o e n hb (by simp)) (fun b o _ e n=>u.free b o e n (by simp)) (fun b o _ e=>u.there b o e (by simp)) u.tups u.frzs u.tbls (fun i hm=>by
  obtain⟨o',es',g,d,h⟩:=hm;rw[c] at d;cases d;exact⟨_,es',g,f,h⟩) a I.bare
def Inv.call{g':Array GenState}{t':Nat}{d':Drawn}{ch:List Addr}(I:Inv X aa σ H s)(u:Un (frs X.stack) ch H H' s.heap h')(d:HOk X.prog X.w H' h')(l:AllBare g')(h:∀b∈ch,(b∈X.ex\/X.s₀⁻¹<=b)/\b≠X.env.locals/\(∀x c,X.env.cells.lookup x=some c->c≠b)/\∀p∈X.pn++aa,p.1≠b):Inv X aa σ H' {s with heap:=h',gens:=g',drawn:=d',toks:=t'}:=by
 obtain⟨m,⟨o,es,ep,f,r⟩,_⟩:=id I.loc;obtain⟨v,a⟩:=u.any f I.free fun z=>(h _ z).2.1 rfl;exact I.step (ch:=ch) h (fun b o a hb hc e n=>u.keep b o e n (fun z=>(List.mem_cons.mp (I.stkSub b z)).elim a hb) hc) (fun b o _ _ hc e n=>u.any e n hc) (fun b o hc e n=>u.free b o e n hc) (fun b o hc e=>u.there b o e hc) u.tups u.frzs u.tbls (fun q hm=>by
  obtain⟨o',es',i,g,j⟩:=hm;rw[f] at g;cases g;exact⟨_,es',i,a,j⟩) d l
def Inv.turned{t':Nat}{it:Addr}(I:Inv X aa σ H s)(k:∀b o,b≠it->s.heap.get? b=some o->h'.get? b=some o)(g:H it=none)(d:it≠X.env.locals)(h1:it∈X.ex\/X.s₀⁻¹<=it)(h2:∀x c,X.env.cells.lookup x=some c->c≠it)(h:∀p∈X.pn++aa,p.1≠it):Inv X aa σ H {s with heap:=h',toks:=t'}:=by
 have a:∀b u,H b=some u->b≠it:=fun b u e z=>by rw[z,g] at e;cases e
 refine I.step (g':=s.gens) (d':=s.drawn) (ch:=[it]) (fun b hb=>?_) (fun b o _ _ hc e _=>k b o (fun z=>hc (by simp[z])) e) (fun b o _ _ hc e _=>⟨o.slots,k b o (fun z=>hc (by simp[z])) e⟩) (fun _ _ _ _ n=>n)
  (fun b o hc e=>⟨o,k b o (fun z=>hc (by simp[z])) e⟩) (fun _ _ e=>e) (fun _ _ _ e=>e) (fun b ps e=>⟨#[],by rw[e];simp⟩) (fun m hm=>?_) (fun b u e=>?_) I.bare
 ·have e:b=it:=by simpa using hb
  subst e;exact⟨h1,d,h2,h⟩
 ·obtain⟨o,es,ep,f,r⟩:=hm
  exact⟨o,es,ep,k _ o (Ne.symm d) f,r⟩
 ·refine(I.hok b u e).stay (fun c v hc q=>k c v ?_ q) (fun _ q=>q) fun _ _ q=>q
  rcases hc with z|z
  ·rw[z];exact a b u e
  ·exact a c _ z
def Inv.tok(I:Inv X aa σ H s)(t:Nat):Inv X aa σ H {s with toks:=t}:=I.un (h':=s.heap) (t':=t) Un.refl I.hok
def Inv.kept{t':Nat}(I:Inv X aa σ H s)(k:∀b u,s.heap.get? b=some u->h'.get? b=some u):Inv X aa σ H {s with heap:=h',toks:=t'}:=I.un (Un.kept k) (I.hok.kept k)
def Inv.laid{a:Addr}{o:HO}{t':Nat}(I:Inv X aa σ H s)(k:∀b u,s.heap.get? b=some u->h'.get? b=some u)(hp:s⁻¹<=a)(new:zQ X.prog X.w (upd H a o) h' a o):Inv X aa σ (upd H a o) {s with heap:=h',toks:=t'}:=I.un (Un.laid k hp (I.hok.fresh hp)) (I.hok.laid k hp new)
def Inv.write{x e:Addr}{o:HO}{t':Nat}(I:Inv X aa σ H s)(a:j5 (H x))(he:e=x\/H e=some (.own x))(k:∀b u,b≠e->s.heap.get? b=some u->h'.get? b=some u)(c:∃u,h'.get? e=some u)(new:zQ X.prog X.w (upd H x o) h' x o):Inv X aa σ (upd H x o) {s with heap:=h',toks:=t'}:=I.un (Un.write a he k c) (I.hok.write a he k c new)
def Inv.pins_of{bL:Ψ}(I:Inv X aa σ H s)(h:∀p∈bL,s.heap.get? p.1=some p.2/\H p.1=none/\p.1≠X.env.locals/\p.1∉X.fs/\∀v,p.2.data≠.cell v):Inv X bL σ H s:=
 ⟨I.ok,I.os,I.bare,I.base,I.loc,I.cell,I.free,I.freeC,fun p hp=>(List.mem_append.mp hp).elim (fun z=>I.pin p (A9 _ z)) (h p),I.hok,I.len⟩
def oZ{N:List Str}(c:N.Nodup){i j:Nat}{x:Str}(a:N[i]?=some x)(b:N[j]?=some x):i=j:=by
 obtain⟨h1,e1⟩:=List.getElem?_eq_some_iff.mp a;obtain⟨h2,e2⟩:=List.getElem?_eq_some_iff.mp b;exact(List.getElem_inj c).mp (e1.trans e2.symm)
def o0{M:Model}{A:Around}{E:Ω}{i:Nat}{x:Str}{v:V}{u:Value}{Q:Unit->Shared->Prop}(I:Inv X aa σ H s)(hN:X.N.Nodup)(hi:X.N[i]?=some x)(hx:Loc X.env.scope x)(r:RelV v u)(h:∀s',Inv X aa (σ.set i (some v)) H s'->(∃a,A4 a s.heap s'.heap/\(a=X.env.locals\/X.env.cells.lookup x=some a))->Q () s')(hf:X.fn x=true\/X.env.scope.names.lookup x=some .local:=by first|exact .inl rfl|exact .inr rfl|assumption):wpAny M A (storeName X.env x u) Q E s:=by
 obtain⟨m,G,W⟩:=id I.loc;have gH:(X.env.scope.kind==.class|| (X.env.scope.kind==.module&&X.env.locals != X.env.globals))=false:=by rw[I.ok.kind];rfl
 have f:i<σ.length:=by rw[I.len];exact(List.getElem?_eq_some_iff.mp hi).1
 have cne:=I.cne;have c_:∀{a:Addr}{h':Heap},(∃o,s.heap.get? a=some o/\H a=none)->A4 a s.heap h'->HOk X.prog X.w H h':=fun{a h'} ha hs b ob e=>by
  obtain⟨_,_,Y⟩:=ha;refine(I.hok b ob e).stay (fun c C hc q=>(hs.2 c ?_).trans q) (fun _ q=>q) fun _ _ q=>q;rintro rfl;rcases hc with rfl|hc
  ·rw[Y] at e;cases e
  ·rw[Y] at hc;cases hc
 rcases hx with hk|hk
 ·refine wpAny_storeName_local hk G (fun h' gz hs=>?_) gH
  obtain⟨oL,_,_,J,_⟩:=id G;refine h _ ⟨I.ok,I.os,I.bare,⟨fun b o e n hb hx=>?_,fun b o e n hb hx=>?_,I.base.free,fun b o e hx=>?_,I.base.tups,I.base.frzs,I.base.tbls⟩,⟨_,gz,fun j y F e1 e2 e3=>?_⟩,fun y c e=>?_,I.free,I.freeC,fun p hp=>?_,c_ ⟨oL,J,I.free⟩ hs,by simpa using I.len⟩ ⟨_,hs,.inl rfl⟩
  ·exact(hs.2 b (Al (Ay (Ah e) I.ok.above))).trans (I.base.keep b o e n hb hx)
  ·obtain⟨L,e1⟩:=I.base.slot b o e n hb hx
   exact⟨L,(hs.2 b (Al (Ay (Ah e) I.ok.above))).trans e1⟩
  ·obtain⟨o',e1⟩:=I.base.there b o e hx
   exact⟨o',(hs.2 b (Al (Ay (Ah e) I.ok.above))).trans e1⟩
  ·by_cases g:j=i
   ·subst g
    rw[hi] at e1;cases e1;rw[List.getElem?_set_self f] at e2;cases e2;exact⟨u,r,.inl ⟨hk,by simp⟩⟩
   ·rw[List.getElem?_set_ne (Ne.symm g)] at e2
    obtain⟨O,P,q⟩:=W j y F e1 e2 e3;refine⟨O,P,?_⟩;rcases q with ⟨k,e⟩|⟨k,c,e,z⟩
    ·refine .inl ⟨k,?_⟩
     have:y≠x:=fun e=>g (oZ hN e1 (e▸hi));simp[this,e]
    ·exact .inr ⟨k,c,e,z.sameBut hs (cne y c e)⟩
  ·obtain⟨C,z⟩:=I.cell y c e
   exact⟨C,z.sameBut hs (cne y c e)⟩
  ·obtain⟨e,n,ne,S,d⟩:=I.pin p hp
   exact⟨(hs.2 p.1 ne).trans e,n,ne,S,d⟩
 ·have T:X.fn x=true:=by
   rcases hf with z|z
   ·exact z
   ·rw[z] at hk;cases hk
  obtain⟨c,hc⟩:=I.ok.has x (.inl hk);obtain⟨C,z⟩:=I.cell x c hc;refine wpAny_storeName_cell I.ok.kind hk hc z (fun h' U hs=>?_);obtain⟨Z,nN,k_⟩:=id z;refine h {s with heap:=h'} ⟨I.ok,I.os,I.bare,⟨fun b o e n hb hx=>?_,fun b o e n hb hx=>?_,I.base.free,fun b o e hx=>?_,I.base.tups,I.base.frzs,I.base.tbls⟩,⟨m,G.sameBut hs (Ne.symm (cne x c hc)),fun j y F e1 e2 e3=>?_⟩,fun y D e=>?_,I.free,I.freeC,fun p hp=>?_,c_ ⟨Z,nN,I.freeC x c hc⟩ hs,by simpa using I.len⟩ ⟨c,hs,.inr hc⟩
  ·exact(hs.2 b (Al (Ay (Ah e) (I.ok.cab x c T hc)))).trans (I.base.keep b o e n hb hx)
  ·obtain⟨L,e1⟩:=I.base.slot b o e n hb hx
   exact⟨L,(hs.2 b (Al (Ay (Ah e) (I.ok.cab x c T hc)))).trans e1⟩
  ·obtain⟨o',e1⟩:=I.base.there b o e hx
   exact⟨o',(hs.2 b (Al (Ay (Ah e) (I.ok.cab x c T hc)))).trans e1⟩
  ·by_cases g:j=i
   ·subst g
    rw[hi] at e1;cases e1;rw[List.getElem?_set_self f] at e2;cases e2;exact⟨u,r,.inr ⟨.inl hk,c,hc,U⟩⟩
   ·rw[List.getElem?_set_ne (Ne.symm g)] at e2
    obtain⟨O,P,q⟩:=W j y F e1 e2 e3;refine⟨O,P,?_⟩;rcases q with q|⟨k,D,e,z'⟩
    ·exact .inl q
    ·refine .inr ⟨k,D,e,z'.sameBut hs ?_⟩
     rintro rfl;exact g (oZ hN e1 (I.ok.inj _ _ _ e hc▸hi))
  ·by_cases l:D=c
   ·subst l;exact⟨_,U⟩
   ·obtain⟨w2,z2⟩:=I.cell y D e
    exact⟨w2,z2.sameBut hs l⟩
  ·obtain⟨e,n,ne,S,d⟩:=I.pin p hp
   refine⟨(hs.2 p.1 ?_).trans e,n,ne,S,d⟩;intro q;rw[q,nN] at e;have q':Z=p.2:=As e;exact d C (by rw[<-q'];exact k_)
def mD{M:Model}{A:Around}{E:Ω}{i:Nat}{x:Str}{v:V}{u:Value}{Q:Unit->Shared->Prop}(I:Inv X aa σ H s)(a:X.N.Nodup)(hi:X.N[i]?=some x)(hx:Loc X.env.scope x)(r:RelV v u)(h:∀s',Inv X aa (σ.set i (some v)) H s'->Q () s')(hf:X.fn x=true\/X.env.scope.names.lookup x=some .local:=by first|exact .inl rfl|exact .inr rfl|assumption):wpAny M A (storeName X.env x u) Q E s:=
 o0 I a hi hx r (fun s' c _=>h s' c) hf
def Inv.call'{s':Shared}{ch:List Addr}(I:Inv X aa σ H s)(d:s'.os=s.os)(u:Un (frs X.stack) ch H H' s.heap s'.heap)(a:HOk X.prog X.w H' s'.heap)(f:AllBare s'.gens)(g:∀b∈ch,(b∈X.ex\/X.s₀⁻¹<=b)/\b≠X.env.locals/\(∀x c,X.env.cells.lookup x=some c->c≠b)/\∀p∈X.pn++aa,p.1≠b):Inv X aa σ H' s':=by
 obtain⟨h',g',d',t',o'⟩:=s';have e:o'=s.os:=d;subst e;exact I.call (g':=g') (t':=t') (d':=d') u a f g
end
abbrev XK:=Value->Option Addr->Hp->Prop
abbrev St:=List (Option V)
abbrev VK:=V->Hp->Prop
abbrev TE:=St->Hp->VK->Prop
abbrev TT:=St->Hp->(Bool->Hp->Prop)->Prop
abbrev TA:=St->Hp->(List V->Hp->Prop)->Prop
structure Ends where
 nx:St->Hp->Prop
 rt:VK
 bk:St->Hp->Prop:=fun _ _=>False
 ct:St->Hp->Prop:=fun _ _=>False
abbrev TS:=Ends->St->Hp->Prop
def EP(X:Cx)(aa:Ψ)(σ:St)(Q:VK)(u:Value)(s':Shared):Prop:=∃v H',Inv X aa σ H' s'/\RelV v u/\Q v H'
def TP(X:Cx)(aa:Ψ)(σ:St)(Q:Bool->Hp->Prop)(b:Bool)(s':Shared):Prop:=∃H',Inv X aa σ H' s'/\Q b H'
def AP(X:Cx)(aa:Ψ)(σ:St)(Q:List V->Hp->Prop)(us:List Value)(s':Shared):Prop:=∃vs H',Inv X aa σ H' s'/\Vals vs us/\Q vs H'
def SP(X:Cx)(aa:Ψ)(D:Ends)(f:Flow)(s':Shared):Prop:=
 match f with
 |.next=>∃a H',Inv X aa a H' s'/\D.nx a H'
 |.brk=>∃a H',Inv X aa a H' s'/\D.bk a H'
 |.cont=>∃a H',Inv X aa a H' s'/\D.ct a H'
 |.ret u=>∃v a H',Inv X aa a H' s'/\RelV v u/\D.rt v H'
def PE(X:Cx)(e:Expr)(t:TE):Prop:=
 ∀(aa:Ψ)(s:Shared)(σ:St)(H:Hp)(Q:VK),Inv X aa σ H s->t σ H Q->wpAny (model X.prog X.w) X.A (eval e X.env) (EP X aa σ Q) X.xe s
def PT(X:Cx)(e:Expr)(t:TT):Prop:=
 ∀(aa:Ψ)(s:Shared)(σ:St)(H:Hp)(Q:Bool->Hp->Prop),Inv X aa σ H s->t σ H Q->wpAny (model X.prog X.w) X.A (isTrue e X.env (eval e X.env)) (TP X aa σ Q) X.xe s
def PW(X:Cx)(e:Expr)(t:TT):Prop:=
 ∀(a:Sem Value)(aa:Ψ)(s:Shared)(σ:St)(H:Hp)(Q:Bool->Hp->Prop),Inv X aa σ H s->t σ H Q->wpAny (model X.prog X.w) X.A (isTrue e X.env a) (TP X aa σ Q) X.xe s
def PW.pt{X:Cx}{e:Expr}{t:TT}(h:PW X e t):PT X e t:=h _
def PA(X:Cx)(es:List Expr)(t:TA):Prop:=
 ∀(pos:Pos)(aa:Ψ)(s:Shared)(σ:St)(H:Hp)(Q:List V->Hp->Prop),Inv X aa σ H s->t σ H Q->wpAny (model X.prog X.w) X.A (spliced (backTo pos (starEach es X.env))) (AP X aa σ Q) X.xe s
def PS(X:Cx)(st:Stmt)(t:TS):Prop:=
 ∀(aa:Ψ)(s:Shared)(σ:St)(H:Hp)(D:Ends),Inv X aa σ H s->t D σ H->wpAny (model X.prog X.w) X.A (exec st X.env) (SP X aa D) X.xe s
def PSs(X:Cx)(st:List Stmt)(t:TS):Prop:=
 ∀(aa:Ψ)(s:Shared)(σ:St)(H:Hp)(D:Ends),Inv X aa σ H s->t D σ H->wpAny (model X.prog X.w) X.A (execs st X.env) (SP X aa D) X.xe s
def bd{c:Type}{t:Sem c}{Q d:c->Shared->Prop}{M:Model}{A:Around}{E:Ω}{s:Shared}(h:wpAny M A t Q E s)(e:∀a s,Q a s->d a s):wpAny M A t d E s:=Bb h e fun _ _ x=>x
section
variable{X:Cx}
def aY(i:Nat):TE:=fun σ H Q=>∃v,σ[i]?=some (some v)/\Q v H
def tC(v:V):TE:=fun _ H Q=>Q v H
def CP{i:Nat}{x:Str}{pos:Pos}(g:X.N[i]?=some x)(j:ij X.env.scope x)(hd:(x==("__debug__":Str))=false:=by decide)(o:(x==("__classdict__":Str))=false:=by decide):PE X (.Name x pos) (aY i):=by
 intro aa s σ H Q I h;obtain⟨v,e,h⟩:=h;obtain⟨m,d,f⟩:=I.loc;obtain⟨u,r,l⟩:=f i x v g e j;have fin:EP X aa σ Q u s:=⟨v,H,I,r,h⟩;rcases l with ⟨hk,hm⟩|⟨hk,c,hc,a⟩
 ·exact wpAny_Name (wpAny_loadName_local I.ok.kind hk d hm fin) hd
 ·rcases hk with hk|hk
  ·exact wpAny_Name (wpAny_loadName_cell I.ok.kind hk hc a fin) hd
  ·exact wpAny_Name (wpAny_loadName_free I.ok.kind hk hc a fin o) hd
def zh{i j pos}:PE X (.Constant (.int i) j pos) (tC (.int i)):=fun _ _ _ H _ I h=>wpAny_Constant_int ⟨.int i,H,I.tok _,⟨_,rfl⟩,h⟩
def fI{b j pos}:PE X (.Constant (.bool b) j pos) (tC (.bl b)):=fun _ _ _ H _ I h=>Constant_bool ⟨.bl b,H,I,rfl,h⟩
def im{j pos}:PE X (.Constant .none j pos) (tC .non):=fun _ _ _ H _ I h=>Constant_none ⟨.non,H,I,rfl,h⟩
def pe_str{x j pos}:PE X (.Constant (.str x) j pos) (tC (.str x)):=fun _ _ _ H _ I h=>Calls.Constant_str ⟨.str x,H,I.tok _,⟨_,rfl⟩,h⟩
def Gl(X:Cx)(x:Str):Prop:=X.env.kindOf x=some .globalImplicit
def j6{E:Ω}{aa:Ψ}{s:Shared}{σ:St}{H:Hp}{x:Str}{u:Value}{pos:Pos}{Q:Ω}(I:Inv X aa σ H s)(a:Gl X x)(hm:X.mg x=some u)(h:Q u s)(hd:(x==("__debug__":Str))=false:=by decide):wpAny (model X.prog X.w) X.A (eval (.Name x pos) X.env) Q E s:=
 Calls.Name_function_global I.ok.kind a (Calls.loadGlobal_global (by rw[I.ok.glob];exact I.mod.glob.keeps I.bk) hm h) hd
def jg{E:Ω}{aa:Ψ}{s:Shared}{σ:St}{H:Hp}{x:Str}{u:Value}{pos:Pos}{Q:Ω}(I:Inv X aa σ H s)(a:Gl X x)(hm:X.mg x=none)(c:Bh x=some u)(h:Q u s)(d:x≠"__name__":=by decide)(hd:(x==("__debug__":Str))=false:=by decide):wpAny (model X.prog X.w) X.A (eval (.Name x pos) X.env) Q E s:=by
 obtain⟨e,h1,h2⟩:=I.mod.blt;exact Calls.Name_function_global I.ok.kind a (Calls.loadGlobal_builtin (by rw[I.ok.glob];exact I.mod.glob.keeps I.bk) hm (by rw[I.ok.blt];exact h1.keeps I.bk) ((h2 x d).trans c) h) hd
def gP{x:Str}{v:V}{u:Value}{pos:Pos}(a:Gl X x)(hm:X.mg x=some u)(r:RelV v u)(hd:(x==("__debug__":Str))=false:=by decide):PE X (.Name x pos) (tC v):=
 fun _ _ _ H _ I h=>j6 I a hm ⟨v,H,I,r,h⟩ hd
def CQ{x:Str}{v:V}{u:Value}{pos:Pos}(a:Gl X x)(hm:X.mg x=none)(c:Bh x=some u)(r:RelV v u)(d:x≠"__name__":=by decide)(hd:(x==("__debug__":Str))=false:=by decide):PE X (.Name x pos) (tC v):=
 fun _ _ _ H _ I h=>jg I a hm c ⟨v,H,I,r,h⟩ d hd
variable{a b:Expr}{ta tb:TE}{pos:Pos}
def PC(X:Cx)(op:CmpOp)(a b:Expr)(t:TE):Prop:=
 ∀(aa:Ψ)(s:Shared)(σ:St)(H:Hp)(Q:VK),Inv X aa σ H s->t σ H Q->
  wpAny (model X.prog X.w) X.A (eval a X.env) (fun v c=>wpAny (model X.prog X.w) X.A (eval b X.env) (fun u d=>wpAny (model X.prog X.w) X.A (compareOp op v u) (EP X aa σ Q) X.xe d) X.xe c) X.xe s
def fJ(b:Expr){op:CmpOp}(h:op≠.In)(h2:op≠.NotIn):behindInMarks op b=false:=by
 have e1:(op==CmpOp.In)=false:=by cases op<;>first|rfl|exact absurd rfl h
 have e2:(op==CmpOp.NotIn)=false:=by cases op<;>first|rfl|exact absurd rfl h2
 cases b<;>simp[behindInMarks,e1,e2]
def tB(t:TE):TT:=fun σ H Q=>t σ H fun x H1=>∃c,x=.bl c/\Q c H1
def CS{op:CmpOp}{t:TE}(h:PC X op a b t)(h1:behindInMarks op b=false:=by first|exact fJ _ ξ ξ|rfl):PT X (.Compare a [op] [b] pos) (tB t):=by
 intro aa s σ H Q I hw;refine wpAny_isTrue_Compare1 (bd (h aa s σ H _ I hw) fun v g h1=>bd h1 fun u i h2=>bd h2 fun c j ⟨x,H1,f,e,q1⟩=>?_) h1;obtain⟨d,rfl,q⟩:=q1;cases e;exact wpAny_truthy_bool ⟨H1,f,q⟩
def jj{e:Expr}{t:TE}(h:PE X e t)(he:∀a,isTrue e X.env a=(do let v <-a;standAt e.pos;holding [v] (truthy v)):=by intro _;rfl):PT X e (tB t):=by
 intro aa s σ H Q I hw;refine isTrue_plain (bd (h aa s σ H _ I hw) fun v g ⟨x,H1,f,c,q1⟩=>?_) (he _);obtain⟨d,rfl,q⟩:=q1;cases c;exact wpAny_truthy_bool ⟨H1,f,q⟩
variable{tA jU:TT}{rest:List Expr}
def j9(t u:TT):TT:=fun σ H Q=>t σ H fun c H1=>if c=true then u σ H1 Q else Q false H1
def CT(t u:TT):TT:=fun σ H Q=>t σ H fun c H1=>if c=true then Q true H1 else u σ H1 Q
def o7(t:TT):TT:=fun σ H Q=>t σ H fun c H1=>Q (!c) H1
def o9(d:PT X a tA):PW X (.BoolOp .And [a] pos) tA:=by
 intro f aa s σ H Q I h;refine isTrue_and (bd (d aa s σ H Q I h) fun c g e=>?_);cases c with
 |true=>exact isTrue_and_nil e
 |false=>exact e
def j_(d:PT X a tA):PW X (.BoolOp .Or [a] pos) tA:=by
 intro f aa s σ H Q I h;refine isTrue_or (bd (d aa s σ H Q I h) fun c g e=>?_);cases c with
 |false=>exact isTrue_or_nil e
 |true=>exact e
def o_(g:PT X a tA)(hb:PW X (.BoolOp .And (b::rest) pos) jU):PW X (.BoolOp .And (a::b::rest) pos) (j9 tA jU):=by
 intro e aa s σ H Q I h;refine isTrue_and (bd (g aa s σ H _ I h) fun c f ⟨H1,d,q1⟩=>?_);cases c with
 |true=>exact hb e aa f σ H1 Q d q1
 |false=>exact⟨H1,d,q1⟩
def iq(g:PT X a tA)(hb:PW X (.BoolOp .Or (b::rest) pos) jU):PW X (.BoolOp .Or (a::b::rest) pos) (CT tA jU):=by
 intro e aa s σ H Q I h;refine isTrue_or (bd (g aa s σ H _ I h) fun c f ⟨H1,d,q1⟩=>?_);cases c with
 |true=>exact⟨H1,d,q1⟩
 |false=>exact hb e aa f σ H1 Q d q1
def gQ(d:PT X a tA):PT X (.UnaryOp .Not a pos) (o7 tA):=by
 intro aa s σ H Q I h;exact isTrue_not (d aa s σ H (fun c H1=>Q (!c) H1) I h)
def CU(ta tb:TE):TE:=fun σ H Q=>ta σ H fun x H1=>∃c,x=.bl c/\if c=true then tb σ H1 Q else Q (.bl false) H1
def wz{op}{t:TE}(h:PE X a t):PE X (.BoolOp op [a] pos) t:=fun aa s σ H Q I hw=>BoolOp_one (h aa s σ H Q I hw)
def wA(g:PE X a ta)(hb:PE X (.BoolOp .And (b::rest) pos) tb):PE X (.BoolOp .And (a::b::rest) pos) (CU ta tb):=by
 intro aa s σ H Q I h;refine BoolOp_and (bd (g aa s σ H _ I h) fun v e ⟨x,H1,d,f,q1⟩=>?_);obtain⟨c,rfl,q1⟩:=q1;cases f;refine wpAny_truthy_bool ?_;cases c with
 |true=>exact hb aa e σ H1 Q d q1
 |false=>exact⟨.bl false,H1,d,rfl,q1⟩
end
def SqL(K:Ae)(H:Hp)(a:Addr)(xs:List V):Prop:=
 Rd H a (.lst xs) \/
  ∃(o:Obj)(c:Array Value)(n:Nat),K.lookup a=some o/\o.cls=.type "list"/\o.dict=none/\o.data=.seq c n/\c.size<=sizeLine/\Vals xs c.toList
def SqT(K:Ae)(H:Hp)(a:Addr)(xs:List V):Prop:=
 Rd H a (.tup xs) \/
  ∃(o:Obj)(c:Array Value)(n:Nat),K.lookup a=some o/\o.cls=.type "tuple"/\o.data=.seq c n/\c.size<=sizeLine/\Vals xs c.toList
def pa:Value->Option V
 |.none=>some .non
 |.bool b=>some (.bl b)
 |.int i _=>some (.int i)
 |.str x _=>some (.str x)
 |.bytes b _=>some (.byt b)
 |.float b _=>some (.flt b)
 |.ref a=>some (.ref a)
 |.type n=>some (.ty n)
 |_=>none
def RelV.abs{x:V}{u:Value}(r:RelV x u):pa u=some x:=by
 cases x with
 |non=>cases r;rfl
 |bl _=>cases r;rfl
 |int _=>obtain⟨t,rfl⟩:=r;rfl
 |str _=>obtain⟨t,rfl⟩:=r;rfl
 |byt _=>obtain⟨t,rfl⟩:=r;rfl
 |flt _=>obtain⟨t,rfl⟩:=r;rfl
 |ref _=>cases r;rfl
 |ty _=>cases r;rfl
def RelV.inj{x y:V}{u:Value}(r:RelV x u)(q:RelV y u):x=y:=As (r.abs.symm.trans q.abs)
def Vals.inj{xs ys:List V}{us:List Value}(h:Vals xs us)(g:Vals ys us):xs=ys:=by
 induction h generalizing ys with
 |nil=>cases g;rfl
 |cons r t ih=>cases g with|cons r' t'=>rw[r.inj r',ih t']
section
variable{X:Cx}{aa:Ψ}{σ:St}{H:Hp}{s:Shared}{a:Addr}{xs ys:List V}
def SqL.of{K:Ae}(h:H a=some (.lst xs)):SqL K H a xs:=.inl (.inl h)
def SqT.of{K:Ae}(h:H a=some (.tup xs)):SqT K H a xs:=.inl (.inl h)
def Inv.list(I:Inv X aa σ H s)(h:SqL X.K H a xs):∃c:List Value,Vals xs c/\PlainL s.heap a c.toArray/\xs.length<=sizeLine:=by
 rcases h with h|⟨o,c,n,hk,hc,hd,hs,d,r⟩
 ·obtain⟨z,c,n,r,e⟩:=h.ok I.hok
  exact⟨c,r,⟨_,n,e,rfl,rfl,rfl⟩,z⟩
 ·refine⟨c.toList,r,⟨o,n,I.kIn a o hk,hc,hd,by simpa using hs⟩,?_⟩
  have e:=r.length;simp only[Af] at e;omega
def Inv.tuple(I:Inv X aa σ H s)(h:SqT X.K H a xs):∃c:List Value,Vals xs c/\IsTup s.heap a c.toArray/\xs.length<=sizeLine:=by
 rcases h with h|⟨o,c,n,hk,hc,hs,d,r⟩
 ·obtain⟨z,c,r,p⟩:=h.ok I.hok
  exact⟨c,r,p,z⟩
 ·refine⟨c.toList,r,⟨o,I.kIn a o hk,hc,n,by simpa using hs⟩,?_⟩
  have e:=r.length;simp only[Af] at e;omega
def Inv.list_inj(I:Inv X aa σ H s)(h:SqL X.K H a xs)(h':SqL X.K H a ys):xs=ys:=by
 obtain⟨f,r,⟨o,n,e,_,_,d⟩,_⟩:=I.list h;obtain⟨its',g,⟨o',i,c,_,_,d'⟩,_⟩:=I.list h';rw[e] at c;cases c;rw[d] at d';injection d' with d1 _
 have:f=its':=by simpa using congrArg Array.toList d1
 subst this;exact r.inj g
def Inv.tuple_inj(I:Inv X aa σ H s)(h:SqT X.K H a xs)(h':SqT X.K H a ys):xs=ys:=by
 obtain⟨f,r,⟨o,e,_,n,d⟩,_⟩:=I.tuple h;obtain⟨its',g,⟨o',c,_,i,d'⟩,_⟩:=I.tuple h';rw[e] at c;cases c;rw[d] at d';injection d' with d1 _
 have:f=its':=by simpa using congrArg Array.toList d1
 subst this;exact r.inj g
end
abbrev Cx.wish(X:Cx)(E:Ω):Cx:={X with xe:=E}
abbrev Cx.nox(X:Cx):Cx:=X.wish fun _ _=>False
def Cx.Ok.wish{X:Cx}(ok:X.Ok)(E:Ω):(X.wish E).Ok:=
 ⟨ok.mod,ok.kind,ok.glob,ok.blt,ok.above,ok.inj,ok.has,ok.cab,ok.hd,ok.frames,ok.stk,ok.exf,ok.bs,ok.bsz,ok.noex,ok.exfs,ok.funs,ok.frf⟩
def Cx.Ok.unwish{X:Cx}{E:Ω}(ok:(X.wish E).Ok):X.Ok:=
 ⟨ok.mod,ok.kind,ok.glob,ok.blt,ok.above,ok.inj,ok.has,ok.cab,ok.hd,ok.frames,ok.stk,ok.exf,ok.bs,ok.bsz,ok.noex,ok.exfs,ok.funs,ok.frf⟩
section
variable{X:Cx}{aa:Ψ}{σ:St}{H:Hp}{s:Shared}{E:Ω}
def Inv.wish(I:Inv X aa σ H s)(E:Ω):Inv (X.wish E) aa σ H s:=⟨I.ok.wish E,I.os,I.bare,I.base,I.loc,I.cell,I.free,I.freeC,I.pin,I.hok,I.len⟩
def Inv.unwish(I:Inv (X.wish E) aa σ H s):Inv X aa σ H s:=⟨I.ok.unwish,I.os,I.bare,I.base,I.loc,I.cell,I.free,I.freeC,I.pin,I.hok,I.len⟩
def SP.unwish{D:Ends}{f:Flow}{s':Shared}(h:SP (X.wish E) aa D f s'):SP X aa D f s':=by
 cases f with
 |next=>obtain⟨a,H',I,q⟩:=h;exact⟨a,H',I.unwish,q⟩
 |brk=>obtain⟨a,H',I,q⟩:=h;exact⟨a,H',I.unwish,q⟩
 |cont=>obtain⟨a,H',I,q⟩:=h;exact⟨a,H',I.unwish,q⟩
 |ret u=>obtain⟨v,a,H',I,r,q⟩:=h;exact⟨v,a,H',I.unwish,r,q⟩
def PSs.nox{st:List Stmt}{t:TS}(h:PSs X.nox st t):PSs X st t:=fun aa s σ H D I hw=>
 Bb (h aa s σ H D (I.wish _) hw) (fun _ _ q=>q.unwish) fun _ _ z=>False.elim z
end
section
variable{X:Cx}{st:Stmt}{rest:List Stmt}{t u:TS}{e:Expr}{te:TE}{pos:Pos}
def CV:TS:=fun D σ H=>D.nx σ H
def j'(t u:TS):TS:=fun D σ H=>t {D with nx:=u D} σ H
def zt:PSs X [] CV:=fun _ _ σ H _ I h=>wpAny_execs_nil ⟨σ,H,I,h⟩
def ze(h1:PS X st t)(h2:PSs X rest u):PSs X (st::rest) (j' t u):=by
 intro aa s σ H D I h;refine wpAny_execs_cons (bd (h1 aa s σ H {D with nx:=u D} I h) fun f a q=>?_);cases f with
 |next=>
  obtain⟨c,H',d,q⟩:=q;exact h2 aa a c H' D d q
 |ret v=>exact q
 |brk=>exact q
 |cont=>exact q
def zg(h1:PS X st t):PSs X [st] t:=by
 intro aa s σ H D I h;refine wpAny_execs_cons (bd (h1 aa s σ H D I h) fun f a q=>?_);cases f with
 |next=>exact wpAny_execs_nil q
 |ret v=>exact q
 |brk=>exact q
 |cont=>exact q
def Inv.quiet{aa:Ψ}{σ:St}{H:Hp}{s:Shared}(I:Inv X aa σ H s):interactive X.env=false:=by simp[interactive,I.ok.kind]
def CW(te:TE):TS:=fun D σ H=>te σ H fun _ H1=>D.nx σ H1
def fM(he:PE X e te)(hs:swapsWith e none pos.line X.env=pure false:=by rfl):PS X (.Expr e pos) (CW te):=by
 intro aa s σ H D I h;exact wpAny_Expr_any (bd (he aa s σ H _ I h) fun v c ⟨x,H1,a,d,q1⟩=>⟨σ,H1,a,q1⟩) I.quiet hs
def pb(te:TE):TS:=fun D σ H=>te σ H D.rt
def zp(he:PE X e te):PS X (.Return (some e) pos) (pb te):=by
 intro aa s σ H D I h;exact wpAny_Return_some (bd (he aa s σ H _ I h) fun v d ⟨x,H1,c,a,q1⟩=>⟨x,σ,H1,c,a,q1⟩)
def pd(c:TT)(t u:TS):TS:=fun D σ H=>c σ H fun b H1=>if b=true then t D σ H1 else u D σ H1
def zS{c:Expr}{a b:List Stmt}{tc:TT}(hc:PT X c tc)(g:PSs X a t)(hb:PSs X b u):PS X (.If c a b pos) (pd tc t u):=by
 intro aa s σ H D I h;refine wpAny_If (bd (hc aa s σ H _ I h) fun d e ⟨H1,f,q1⟩=>?_);cases d with
 |true=>exact g aa e σ H1 D f q1
 |false=>exact hb aa e σ H1 D f q1
def CY:TS:=fun _ _ _=>False
def CZ{a:List Stmt}:PSs X a CY:=fun _ _ _ _ _ _ h=>h.elim
end
abbrev TG:=V->St->Hp->(St->Hp->Prop)->Prop
abbrev ir:=List V->St->Hp->(St->Hp->Prop)->Prop
def PG(X:Cx)(c:Expr)(t:TG):Prop:=
 ∀(aa:Ψ)(s:Shared)(σ:St)(H:Hp)(v:V)(u:Value)(Q:St->Hp->Prop),Inv X aa σ H s->RelV v u->t v σ H Q->
  wpAny (model X.prog X.w) X.A (assign c X.env u) (fun _ s'=>∃a H',Inv X aa a H' s'/\Q a H') X.xe s
def mG(X:Cx)(c:List Expr)(t:ir):Prop:=
 ∀(aa:Ψ)(s:Shared)(σ:St)(H:Hp)(vs:List V)(us:List Value)(Q:St->Hp->Prop),Inv X aa σ H s->Vals vs us->t vs σ H Q->
  wpAny (model X.prog X.w) X.A (assignInOrder ((assignEach c X.env).map (·.2)) us) (fun _ s'=>∃a H',Inv X aa a H' s'/\Q a H') X.xe s
abbrev iw:=V->V->V->Hp->(Hp->Prop)->Prop
def ka(X:Cx)(t:iw):Prop:=
 ∀(aa:Ψ)(s:Shared)(σ:St)(H:Hp)(o i v:V)(a iv u:Value)(Q:Hp->Prop),Inv X aa σ H s->RelV o a->RelV i iv->RelV v u->t o i v H Q->
  wpAny (model X.prog X.w) X.A (setItem a iv u) (fun _ s'=>∃H',Inv X aa σ H' s'/\Q H') X.xe s
section
variable{X:Cx}{pos:Pos}
def cm(i:Nat):TG:=fun v σ H Q=>Q (σ.set i (some v)) H
def zn{i:Nat}{x:Str}(a:X.N.Nodup)(hi:X.N[i]?=some x)(hx:Loc X.env.scope x)(hf:X.fn x=true\/X.env.scope.names.lookup x=some .local:=by first|exact .inl rfl|exact .inr rfl|assumption):PG X (.Name x pos) (cm i):=by
 intro aa s σ H v u Q I r h;exact wpAny_assign_Name (mD I a hi hx r (fun s' c=>⟨_,H,c,h⟩) hf)
def kb:ir:=fun vs σ H Q=>vs=[]/\Q σ H
def pe(t:TG)(u:ir):ir:=fun vs σ H Q=>∃v r,vs=v::r/\t v σ H fun a H'=>u r a H' Q
def C0:mG X [] kb:=by
 intro aa s σ H vs us Q I r h;obtain⟨e,h⟩:=h;subst e;cases r;exact assignInOrder_nil ⟨σ,H,I,h⟩
def wB{e:Expr}{es:List Expr}{t:TG}{u:ir}(h1:PG X e t)(h2:mG X es u)(hs:(assignEach (e::es) X.env).map (·.2)=assign e X.env::(assignEach es X.env).map (·.2):=by rfl):mG X (e::es) (pe t u):=by
 intro aa s σ H vs us Q I r h;obtain⟨v,f,e1,h⟩:=h;subst e1;cases r with
 |cons r rr=>
  rw[hs];refine assignInOrder_cons (bd (h1 aa s σ H _ _ _ I r h) fun _ a ⟨c,H1,d,q1⟩=>?_);exact h2 aa a c H1 _ _ Q d rr q1
def kd(K:Ae)(n:Nat)(t:ir):TG:=fun v σ H Q=>∃a xs,v=.ref a/\SqT K H a xs/\xs.length=n/\t xs σ H Q
def C1{es:List Expr}{k:Nat}{t:ir}{n:Nat}(hc:X.calm=true)(h:mG X es t)(g:(assignEach es X.env).length=n:=by rfl)(c:(assignEach es X.env).findIdx? (·.1)=none:=by rfl):PG X (.Tuple es k pos) (kd X.K n t):=by
 intro aa s σ H v u Q I r hw;obtain⟨a,xs,e1,hq,f,hw⟩:=hw;subst e1;cases r;obtain⟨j,d,ht,l⟩:=I.tuple hq;refine assign_Tuple_tuple (I.ok.hd hc) ht (by simp[g,<-f,d.length]) c fun h' hx=>?_;have i:Inv X aa σ H {s with heap:=h'}:=I.kept (t':=s.toks) fun b o e=>hx b o (Al (Ah e)) e;exact h aa _ σ H xs _ Q i (by simpa using d) hw
def pf(to a:TE)(t:iw):TG:=fun v σ H Q=>to σ H fun o H1=>a σ H1 fun i H2=>t o i v H2 fun c=>Q σ c
def wC{o i:Expr}{to c:TE}{t:iw}(p:PE X o to)(hi:PE X i c)(hs:ka X t)(q:∀v,assign (.Subscript o i pos) X.env v=(do
   let a <-holding [v] (eval o X.env)
   let iv <-holding [v,a] (eval i X.env)
   standAt pos
   holding [v,a,iv] (setItem a iv v)
   release [v,a,iv] []):=by intro _;rfl):PG X (.Subscript o i pos) (pf to c t):=by
 intro aa s σ H v u Q I r h;rw[q];refine Aa (A0 (bd (p aa s σ H _ I h) fun a d ⟨x,H1,w,e,q1⟩=>?_));refine Aa (A0 (bd (hi aa d σ H1 _ w q1) fun iv f ⟨y,H2,z,g,j⟩=>?_));refine Aa (wpAny_standAt (Aa (A0 (bd (hs aa f σ H2 x y v a iv u _ z e g r j) fun _ D ⟨A,C,l⟩=>?_))));exact wpAny_release ⟨σ,A,C,l⟩
def ff(te:TE)(g:TG):TS:=fun D σ H=>te σ H fun x H1=>g x σ H1 D.nx
def wD{tg e:Expr}{te:TE}{g:TG}(he:PE X e te)(d:PG X tg g)(hs:swapsWithSole [tg] e pos.line X.env=pure false:=by rfl)(hw:swappedStores [tg] e X.env=pure none:=by rfl)(h1:(assignEach [tg] X.env).map (·.2)=[assign tg X.env]:=by rfl):PS X (.Assign [tg] e pos) (ff te g):=by
 intro aa s σ H D I h;refine wpAny_Assign_stores (bd (he aa s σ H _ I h) fun v a ⟨x,H1,f,c,q1⟩=>?_) hs hw;rw[h1];exact bd (d aa a σ H1 x v _ f c q1) fun _ i q=>q
def zr{i:Nat}{x:Str}{e:Expr}{te:TE}{aH:Pos}(c:X.N.Nodup)(hi:X.N[i]?=some x)(hx:Loc X.env.scope x)(he:PE X e te)(hs:swapsWith e (some (.Name x aH)) pos.line X.env=pure false:=by rfl)(hf:X.fn x=true\/X.env.scope.names.lookup x=some .local:=by first|exact .inl rfl|exact .inr rfl|assumption):PS X (.Assign [.Name x aH] e pos) (ff te (cm i)):=by
 intro aa s σ H D I h;refine wpAny_Assign_Name (bd (he aa s σ H _ I h) fun v g ⟨y,H1,d,a,q1⟩=>?_) hs;exact mD d c hi hx a (fun j f=>⟨_,H1,f,q1⟩) hf
end
structure It where
 go:Nat->Hp->Prop
 yld:Nat->Hp->V->Hp->Prop
 stop:Nat->Hp->Prop
def bD(X:Cx)(aa:Ψ)(H:Hp)(b:Addr):Prop:=
 H b=none/\b≠X.env.locals/\b∉X.fs/\(b∈X.ex\/X.s₀⁻¹<=b)/\(∀x c,X.env.cells.lookup x=some c->c≠b)/\∀p∈X.pn++aa,p.1≠b
def Inv.fpOk{X:Cx}{aa:Ψ}{σ:St}{H H':Hp}{s:Shared}{b:Addr}(I:Inv X aa σ H s)(hb:s⁻¹<=b)(a:H' b=none):bD X aa H' b:=by
 refine⟨a,Nat.ne_of_gt (Ay I.lt hb),I.nofs hb,.inr (AA I.sz hb),fun x c e z=>?_,fun p hp z=>?_⟩
 ·obtain⟨v,q⟩:=I.cell x c e
  exact absurd (Ay q.lt (by rw[z];exact hb)) (Nat.lt_irrefl _)
 ·exact absurd (Ay (Ah (I.pin p hp).1) (by rw[z];exact hb)) (Nat.lt_irrefl _)
structure Turn(P:Program)(w:World)(K:Ae)(tg:Expr)(J:It)(fp:List Addr)(it:Addr)(tn:Nat->Heap->Prop):Prop where
 mem:it∈fp
 obj:∀i h,tn i h->∀b∈fp,∃o,h.get? b=some o/\∀v,o.data≠.cell v
 keep:∀i h h',tn i h->(∀b∈fp,∀o,h.get? b=some o->h'.get? b=some o)->tn i h'
 item:∀(X:Cx),X.prog=P->X.w=w->X.K=K->X.calm=true->∀(i:Nat)(aa:Ψ)(s:Shared)(σ:St)(H:Hp)(E:Ω),Inv X aa σ H s->(∀b∈fp,bD X aa H b)->tn i s.heap->J.go i H->
  wpAny (model P w) X.A (pyNext (.ref it)) (fun r s1=>∃u,r=some u/\
   wpAny (model P w) X.A (letOwnedTupleGo tg (.ref it) u) (fun _ s2=>∃x H',Inv X aa σ H' s2/\RelV x u/\J.yld i H x H'/\tn (i+1) s2.heap/\∀b∈fp,H' b=none) E s1) E s
 done:∀(X:Cx),X.prog=P->X.w=w->X.K=K->X.calm=true->∀(i:Nat)(aa:Ψ)(s:Shared)(σ:St)(H:Hp)(E:Ω),Inv X aa σ H s->(∀b∈fp,bD X aa H b)->tn i s.heap->J.stop i H->
  wpAny (model P w) X.A (pyNext (.ref it)) (fun r s1=>r=none/\Inv X aa σ H s1) E s
 self:∀(A:Around)(i:Nat)(s:Shared)(Q:Ω)(E:Ω),tn i s.heap->Q (.ref it) s->wpAny (model P w) A (pyIter (.ref it)) Q E s
abbrev TI:=St->Hp->(It->Hp->Prop)->Prop
def wE(X:Cx)(aa:Ψ)(σ:St)(tg:Expr)(R:It->Hp->Prop)(d:Value)(a:Shared):Prop:=
 ∃(it:Addr)(fp:List Addr)(c:Nat->Heap->Prop)(J:It)(H':Hp),d=.ref it/\Inv X aa σ H' a/\Turn X.prog X.w X.K tg J fp it c/\c 0 a.heap/\(∀b∈fp,bD X aa H' b)/\R J H'
def PI(X:Cx)(tg iter:Expr)(wi:TI):Prop:=
 ∀(aa:Ψ)(s:Shared)(σ:St)(H:Hp)(R:It->Hp->Prop),Inv X aa σ H s->wi σ H R->
  wpAny (model X.prog X.w) X.A (eval iter X.env) (fun v a=>wpAny (model X.prog X.w) X.A (pyIter v) (wE X aa σ tg R) X.xe a) X.xe s
def mH{M:Model}{A:Around}{E:Ω}{s:Shared}{tg:Expr}{it:Addr}{u:Value}{o:Obj}{n:String}{vs:Array Value}{Q:Unit->Shared->Prop}(c:s.heap.get? it=some o)(hc:o.cls=.type n)(hd:o.data=.fields vs)(d:["enumerate","zip","dict_itemiterator","dict_reverseitemiterator","odict_iterator","itertools.zip_longest","itertools.pairwise"].contains n=false)(a:Q () s):wpAny M A (letOwnedTupleGo tg (.ref it) u) Q E s:=by
 unfold letOwnedTupleGo;cases tg<;>first
  |exact Ad a
  |(cases u<;>first
    |exact Ad a
    |(refine Aa (wpAny_load c ?_);rw[hc,hd];show wpAny M A (if(["enumerate","zip","dict_itemiterator","dict_reverseitemiterator","odict_iterator","itertools.zip_longest","itertools.pairwise"].contains n&&vs[0]?==some (rawInt _))=true then _ else _) Q E s;rw[if_neg (by intro h;rw[d,Bool.false_and] at h;cases h)];exact Ad a))
def du(K:Ae)(a:Addr):It:=
 ⟨fun i H=>∃xs x,SqL K H a xs/\xs[i]?=some x,fun i H x H'=>H'=H/\∀xs,SqL K H a xs->xs[i]?=some x,fun i H=>∃xs,SqL K H a xs/\xs.length<=i⟩
def gm(K:Ae)(a:Addr):It:=
 ⟨fun i H=>∃xs x,SqT K H a xs/\xs[i]?=some x,fun i H x H'=>H'=H/\∀xs,SqT K H a xs->xs[i]?=some x,fun i H=>∃xs,SqT K H a xs/\xs.length<=i⟩
def gn(lo:Int)(n:Nat):It:=⟨fun i _=>i<n,fun i H x H'=>H'=H/\x=.int (lo+i),fun i _=>n<=i⟩
def C2{P:Program}{w:World}{K:Ae}{tg:Expr}(a it:Addr):Turn P w K tg (du K a) [it] it (fun i h=>h.IsListIter it a i) where
 mem:=by simp
 obj:=fun i h st b hb=>by
  have e:b=it:=by simpa using hb
  subst e;obtain⟨o,e,c,d⟩:=st;exact⟨o,e,fun v z=>by rw[d] at z;cases z⟩
 keep:=fun i h h' st k=>st.at fun o e=>k it (by simp) o e
 item:=by
  intro X f hw g hc i aa s σ H E I hf st j;subst f hw g;obtain⟨xs,x,hq,hx⟩:=j;obtain⟨A,l,p,C⟩:=I.list hq;obtain⟨u,hu,D⟩:=l.get hx;obtain⟨f0,f1,f2,f3,f4,f5⟩:=hf it (by simp);refine wpAny_pyNext_list_item st p.isList (x:=u) (by simpa using hu) fun h' q r=>?_;have F:Inv X aa σ H {s with heap:=h'}:=I.turned (t':=s.toks) (fun b o hb e=>(r.2 b hb).trans e) f0 f1 f3 f4 f5;obtain⟨o,e,c,d⟩:=id q;exact⟨u,rfl,mH (s:={s with heap:=h'}) e c d ξ ⟨x,H,F,D,⟨rfl,fun ys hy=>by rw[I.list_inj hy hq];exact hx⟩,q,fun b hb=>(hf b hb).1⟩⟩
 done:=by
  intro X f hw g hc i aa s σ H E I hf st j;subst f hw g;obtain⟨xs,hq,hx⟩:=j;obtain⟨A,l,p,C⟩:=I.list hq;obtain⟨f0,f1,f2,f3,f4,f5⟩:=hf it (by simp);have G:=l.length;exact wpAny_pyNext_list_end (I.ok.hd hc) st p.isList (by simp;omega) fun h' y=>⟨rfl,I.turned (t':=s.toks) (fun b o hb e=>y b o hb e) f0 f1 f3 f4 f5⟩
 self:=fun _ _ _ _ _ st h=>wpAny_pyIter_listiter st h
def C3{P:Program}{w:World}{K:Ae}{tg:Expr}(a it:Addr):Turn P w K tg (gm K a) [it] it (fun i h=>h.IsTupleIter it a i) where
 mem:=by simp
 obj:=fun i h st b hb=>by
  have e:b=it:=by simpa using hb
  subst e;obtain⟨o,e,c,d⟩:=st;exact⟨o,e,fun v z=>by rw[d] at z;cases z⟩
 keep:=fun i h h' st k=>st.at fun o e=>k it (by simp) o e
 item:=by
  intro X f hw g hc i aa s σ H E I hf st j;subst f hw g;obtain⟨xs,x,hq,hx⟩:=j;obtain⟨l,q,p,C⟩:=I.tuple hq;obtain⟨u,hu,D⟩:=q.get hx;obtain⟨f0,f1,f2,f3,f4,f5⟩:=hf it (by simp);refine wpAny_pyNext_tuple_item st (show s.heap.IsTuple a l.toArray from p) (x:=u) (by simpa using hu) fun h' r y=>?_;have F:Inv X aa σ H {s with heap:=h'}:=I.turned (t':=s.toks) (fun b o hb e=>(y.2 b hb).trans e) f0 f1 f3 f4 f5;obtain⟨o,e,c,d⟩:=id r;exact⟨u,rfl,mH (s:={s with heap:=h'}) e c d ξ ⟨x,H,F,D,⟨rfl,fun ys hy=>by rw[I.tuple_inj hy hq];exact hx⟩,r,fun b hb=>(hf b hb).1⟩⟩
 done:=by
  intro X f hw g hc i aa s σ H E I hf st j;subst f hw g;obtain⟨xs,hq,hx⟩:=j;obtain⟨l,q,p,C⟩:=I.tuple hq;obtain⟨f0,f1,f2,f3,f4,f5⟩:=hf it (by simp);have G:=q.length;exact wpAny_pyNext_tuple_end (I.ok.hd hc) st (show s.heap.IsTuple a l.toArray from p) (by simp;omega) fun h' A=>⟨rfl,I.turned (t':=s.toks) (fun b o hb e=>A b o hb e) f0 f1 f3 f4 f5⟩
 self:=fun _ _ _ _ _ st h=>wpAny_pyIter_tupleiter st h
def C4{P:Program}{w:World}{K:Ae}{tg:Expr}(it:Addr)(lo:Int)(n:Nat):Turn P w K tg (gn lo n) [it] it (fun i h=>IsRangeIter h it (lo+(i:Nat)*1) ((n:Int)-(i:Nat)) 1) where
 mem:=by simp
 obj:=fun i h st b hb=>by
  have e:b=it:=by simpa using hb
  subst e;exact⟨_,st,fun v z=>by
   have p:Data.fields _=Data.cell v:=z;cases p⟩
 keep:=fun i h h' st k=>k it (by simp) _ st
 item:=by
  intro X a hw c hc i aa s σ H E I hf st d;subst a hw c;obtain⟨f0,f1,f2,f3,f4,f5⟩:=hf it (by simp);have W:=Walks.range (prog:=X.prog) (w:=X.w) (I.ok.hd hc) it lo 1 n;refine W.item i s _ _ d st fun v h' tk g f j=>?_;obtain⟨t,rfl⟩:=g;have q:Inv X aa σ H {s with heap:=h',toks:=tk}:=I.turned (fun b o hb e=>j b o (by simpa using hb) e) f0 f1 f3 f4 f5;refine⟨_,rfl,mH (s:={s with heap:=h',toks:=tk}) (n:="range_iterator") f rfl rfl ξ ⟨.int (lo+i),H,q,⟨t,?_⟩,⟨rfl,rfl⟩,f,fun b hb=>(hf b hb).1⟩⟩;rw[Int.mul_one]
 done:=by
  intro X a hw c hc i aa s σ H E I hf st d;subst a hw c;obtain⟨f0,f1,f2,f3,f4,f5⟩:=hf it (by simp);exact wpAny_pyNext_range_end (I.ok.hd hc) st (by have:n<=i:=d;omega) fun h' l=>⟨rfl,I.turned (t':=s.toks) (fun b o hb e=>l b o hb e) f0 f1 f3 f4 f5⟩
 self:=fun _ _ _ _ _ st h=>wpAny_pyIter_rangeiter st h
section
variable{X:Cx}{tg:Expr}
def C5(K:Ae)(tl:TE):TI:=fun σ H R=>tl σ H fun x H1=>∃a,x=.ref a/\(∃xs,SqL K H1 a xs)/\R (du K a) H1
def ix(K:Ae)(tl:TE):TI:=fun σ H R=>tl σ H fun x H1=>∃a,x=.ref a/\(∃xs,SqT K H1 a xs)/\R (gm K a) H1
def zF{l:Expr}{tl:TE}(f:PE X l tl):PI X tg l (C5 X.K tl):=by
 intro aa s σ H R I h;refine bd (f aa s σ H _ I h) fun v c ⟨x,H1,I1,d,q1⟩=>?_;obtain⟨a,e,⟨xs,hq⟩,q⟩:=q1;subst e;cases d;obtain⟨g,i,p,j⟩:=I1.list hq;refine wpAny_pyIter_list p.isList ?_;refine⟨c⁻¹,[c⁻¹],_,_,H1,rfl,I1.kept (t':=c.toks) fun b o e=>Ac _ e,C2 a _,⟨_,Av _ rfl,rfl,rfl⟩,fun b hb=>?_,q⟩;have e:b=c⁻¹:=by simpa using hb
 subst e;exact I1.fpOk (Ag _) (I1.hok.fresh (Ag _))
def jk{l:Expr}{tl:TE}(g:PE X l tl):PI X tg l (ix X.K tl):=by
 intro aa s σ H R I h;refine bd (g aa s σ H _ I h) fun v c ⟨x,H1,I1,d,q1⟩=>?_;obtain⟨a,e,⟨xs,hq⟩,q⟩:=q1;subst e;cases d;obtain⟨f,i,p,j⟩:=I1.tuple hq;refine wpAny_pyIter_tuple (show c.heap.IsTuple a f.toArray from p) ?_;refine⟨c⁻¹,[c⁻¹],_,_,H1,rfl,I1.kept (t':=c.toks) fun b o e=>Ac _ e,C3 a _,⟨_,Av _ rfl,rfl,rfl⟩,fun b hb=>?_,q⟩;have e:b=c⁻¹:=by simpa using hb
 subst e;exact I1.fpOk (Ag _) (I1.hok.fresh (Ag _))
def C6{aa:Ψ}{σ:St}{H:Hp}{s:Shared}{R:It->Hp->Prop}{E:Ω}{lo hi:Int}{t u v:Tok}{tk:Nat}(I:Inv X aa σ H s)(h1:-(2 ^ 62)<=lo)(h2:lo<2 ^ 62)(a:-(2 ^ 62)<=hi)(c:hi<2 ^ 62)(q:R (gn lo (hi-lo).toNat) H):wpAny (model X.prog X.w) X.A (pyIter (.ref s⁻¹)) (wE X aa σ tg R) E {s with heap:=s.heap.push {cls:=.type "range",data:=.fields #[.int lo t,.int hi u,.int 1 v]},toks:=tk}:=by
 refine wpAny_pyIter_range (IsRange.new ..) (small_one h1 h2 a c) ?_;have I1:Inv X aa σ H {s with heap:=s.heap.push {cls:=.type "range",data:=.fields #[.int lo t,.int hi u,.int 1 v]},toks:=tk}:=I.kept fun b o e=>Ac _ e;refine⟨(s.heap.push {cls:=.type "range",data:=.fields #[.int lo t,.int hi u,.int 1 v]}).objs.size,[(s.heap.push {cls:=.type "range",data:=.fields #[.int lo t,.int hi u,.int 1 v]}).objs.size],_,_,H,rfl,
  I1.kept (t':=tk) fun b o e=>Ac _ e,C4 _ lo (hi-lo).toNat,?_,fun b hb=>?_,q⟩
 ·have e1:lo+((0:Nat):Int)*1=lo:=by simp
  have e2:(((hi-lo).toNat:Nat):Int)-((0:Nat):Int)=Builtin.Range.rangeSize lo hi 1:=by rw[rangeSize_one];split<;>omega
  show IsRangeIter _ _ (lo+((0:Nat):Int)*1) ((((hi-lo).toNat:Nat):Int)-((0:Nat):Int)) 1;rw[e1,e2];exact Av _ rfl
 ·have e:b=(s.heap.push {cls:=.type "range",data:=.fields #[.int lo t,.int hi u,.int 1 v]}).objs.size:=by simpa using hb
  subst e;exact I1.fpOk (Ag _) (I1.hok.fresh (Ag _))
def wF(ta:TA):TI:=fun σ H R=>ta σ H fun vs H1=>∃j:Int,vs=[.int j]/\-(2 ^ 62)<=j/\j<2 ^ 62/\R (gn 0 j.toNat) H1
def gT{a:Expr}{ta:TA}{p pos:Pos}(f:Gl X "range")(hm:X.mg "range"=none)(g:PA X [a] ta)(hs:starEach [a] X.env=[(false,eval a X.env)]:=by rfl):PI X tg (.Call (.Name "range" p) [a] [] pos) (wF ta):=by
 intro aa s σ H R I h;refine Call_ (jg I f hm boot_range (PyProof.Rows.callWith_type1 (bd (g pos aa s σ H _ I h) fun us l ⟨vs,H1,i,c,q1⟩=>?_) hs rfl));obtain⟨j,e,q1,d,q⟩:=q1;subst e;cases c with
 |cons r rr=>
  cases rr;obtain⟨t,rfl⟩:=r;exact call_range_1 (C6 i ω ω q1 d (by simpa using q))
def pi(wi:TI)(g:TG)(tb:TS):TS:=fun D σ H=>wi σ H fun J H1=>∃W:Nat->Nat->St->Hp->Prop,(∃m,W 0 m σ H1)/\∀i m σ H,W i m σ H->
 (J.stop i H/\D.nx σ H)\/(J.go i H/\∃N:St->Hp->Prop,(∀a H',N a H'->∃c,c<m/\W (i+1) c a H')/\∀x H',J.yld i H x H'->g x σ H' fun d H2=>tb {D with nx:=N,ct:=N,bk:=D.nx} d H2)
def iy(fp:List Addr)(h:Heap):Ψ:=fp.filterMap fun b=>(h.get? b).map fun o=>(b,o)
def z0{fp:List Addr}{h:Heap}{b:Addr}{o:Obj}(hb:b∈fp)(e:h.get? b=some o):(b,o)∈iy fp h:=List.mem_filterMap.mpr ⟨b,hb,by rw[e];rfl⟩
def C7{fp:List Addr}{h:Heap}{p:Addr×Obj}(hp:p∈iy fp h):p.1∈fp/\h.get? p.1=some p.2:=by
 obtain⟨b,hb,e⟩:=List.mem_filterMap.mp hp;cases q:h.get? b with
 |none=>rw[q] at e;cases e
 |some o=>
  rw[q] at e;have a:(b,o)=p:=As e;subst a;exact⟨hb,q⟩
def Inv.pinned{aa:Ψ}{σ:St}{H:Hp}{s:Shared}{fp:List Addr}(I:Inv X aa σ H s)(hf:∀b∈fp,bD X aa H b)(c:∀b∈fp,∃o,s.heap.get? b=some o/\∀v,o.data≠.cell v):Inv X (aa++iy fp s.heap) σ H s:=
 I.pins_of fun p hp=>(List.mem_append.mp hp).elim (fun z=>I.pin p (AB _ z)) fun z=>by
  obtain⟨hb,e⟩:=C7 z;obtain⟨f0,f1,f2,_⟩:=hf p.1 hb;obtain⟨o,a,d⟩:=c p.1 hb;rw[e] at a;cases a;exact⟨e,f0,f1,f2,d⟩
def Inv.unpinned{aa a:Ψ}{σ:St}{H:Hp}{s:Shared}(I:Inv X (aa++a) σ H s):Inv X aa σ H s:=I.pins_of fun p hp=>I.pin p (AB _ (A9 _ hp))
def ee{iter:Expr}{body:List Stmt}{wi:TI}{g:TG}{tb:TS}{pos:Pos}(hp:PassesOwn (model X.prog X.w) X.A X.env X.xe)(hc:X.calm=true)(hi:PI X tg iter wi)(hg:PG X tg g)(hb:PSs X body tb)(hs:∀x,Be iter X.env x=pure x:=by intro _;rfl):PS X (.For tg iter body [] pos) (pi wi g tb):=by
 intro aa s σ H D I h;refine wpAny_For (bd (hi aa s σ H _ I h) fun v s1 h1=>bd h1 fun jr s2 h2=>?_) hs;obtain⟨it,fp,M,J,H2,e,I2,T,a_,f2,W,⟨m0,w0⟩,turn⟩:=h2;subst e;have c:∀{H':Hp},(∀b∈fp,H' b=none)->∀b∈fp,bD X aa H' b:=fun Y b hb=>⟨Y b hb,(f2 b hb).2⟩;refine codeAny_forLoop_any (fun n s'=>∃i y H',Inv X aa y H' s'/\M i s'.heap/\(∀b∈fp,H' b=none)/\W i n y H') ?_ m0 ⟨0,σ,H2,I2,a_,fun b hb=>(f2 b hb).1,w0⟩;rintro n O ⟨i,z,C,U,P,Q,w3⟩;rcases turn i n z C w3 with ⟨stop,qn⟩|⟨go,N,hN,step⟩
 ·refine wpAny_passesOwn hp (bd (T.done X rfl rfl rfl hc i aa O z C X.xe U (c Q) P stop) fun r Z ⟨hr,I4⟩=>?_)
  subst hr;exact wpAny_execs_nil ⟨z,C,I4,qn⟩
 ·refine wpAny_passesOwn hp (bd (T.item X rfl rfl rfl hc i aa O z C X.xe U (c Q) P go) fun r Z ⟨u,hr,h4⟩=>?_)
  subst hr;refine wpAny_passesOwn hp (bd h4 fun _ L ⟨x,S,I5,r5,y5,p,E⟩=>?_);have G:=I5.pinned (c E) (T.obj _ _ p);refine wpAny_passesOwn hp (bd (hg _ L z S x u _ G r5 (step x S y5)) fun _ s6 ⟨dA,H6,I6,q6⟩=>?_);refine wpAny_passesOwn hp (bd (hb _ s6 dA H6 _ I6 q6) fun f F l=>?_);have again:∀{a:St}{j:Hp},Inv X (aa++iy fp L.heap) a j F->N a j->∃m,m<n/\∃i y H',Inv X aa y H' F/\M i F.heap/\(∀b∈fp,H' b=none)/\W i m y H':=fun{a j} I7 q=>by
   obtain⟨m',hm,w7⟩:=hN a j q;refine⟨m',hm,i+1,a,j,I7.unpinned,T.keep _ _ _ p fun b hb o e=>(I7.pin (b,o) (AB _ (AB _ (z0 hb e)))).1,fun b hb=>?_,w7⟩;obtain⟨o,e,d⟩:=T.obj _ _ p b hb;exact(I7.pin (b,o) (AB _ (AB _ (z0 hb e)))).2.1
  cases f with
  |next=>obtain⟨a,j,I7,q⟩:=l;exact again I7 q
  |cont=>obtain⟨a,j,I7,q⟩:=l;exact again I7 q
  |brk=>obtain⟨a,j,I7,l⟩:=l;exact⟨a,j,I7.unpinned,l⟩
  |ret v=>obtain⟨x7,a,j,I7,r7,l⟩:=l;exact⟨x7,a,j,I7.unpinned,r7,l⟩
end
def f_{K:Ae}{a:Addr}{xs:List V}{g:TG}{tb:TS}{D:Ends}{σ:St}{H:Hp}(c:Nat->St->Hp->Prop)(o:c 0 σ H)(r:∀i σ H,i<=xs.length->c i σ H->SqL K H a xs)(hs:∀i x σ H,xs[i]?=some x->c i σ H->g x σ H fun f H2=>tb {D with nx:=c (i+1),ct:=c (i+1),bk:=D.nx} f H2)(hd:∀σ H,c xs.length σ H->D.nx σ H):∃W:Nat->Nat->St->Hp->Prop,(∃m,W 0 m σ H)/\∀i m σ H,W i m σ H->
   ((du K a).stop i H/\D.nx σ H)\/((du K a).go i H/\∃N:St->Hp->Prop,(∀h H',N h H'->∃j,j<m/\W (i+1) j h H')/\∀x H',(du K a).yld i H x H'->g x σ H' fun f H2=>tb {D with nx:=N,ct:=N,bk:=D.nx} f H2):=by
 refine⟨fun i m σ H=>m=xs.length-i/\i<=xs.length/\c i σ H,⟨xs.length,by simp,AW _,o⟩,?_⟩;rintro i m σ H ⟨rfl,hi,p⟩;have q:=r i σ H hi p
 by_cases d:i<xs.length
 ·refine .inr ⟨⟨xs,xs[i],q,by simp[d]⟩,c (i+1),fun h H' l=>⟨xs.length-(i+1),ω,rfl,d,l⟩,fun x H' y=>?_⟩
  obtain⟨e,y⟩:=y;subst e;exact hs i x σ _ (y xs q) p
 ·have e:i=xs.length:=ω
  subst e;exact .inl ⟨⟨xs,q,Ag _⟩,hd σ H p⟩
def wG{K:Ae}{a:Addr}{xs:List V}{g:TG}{tb:TS}{D:Ends}{σ:St}{H:Hp}(c:Nat->St->Hp->Prop)(o:c 0 σ H)(r:∀i σ H,i<=xs.length->c i σ H->SqT K H a xs)(hs:∀i x σ H,xs[i]?=some x->c i σ H->g x σ H fun f H2=>tb {D with nx:=c (i+1),ct:=c (i+1),bk:=D.nx} f H2)(hd:∀σ H,c xs.length σ H->D.nx σ H):∃W:Nat->Nat->St->Hp->Prop,(∃m,W 0 m σ H)/\∀i m σ H,W i m σ H->
   ((gm K a).stop i H/\D.nx σ H)\/((gm K a).go i H/\∃N:St->Hp->Prop,(∀h H',N h H'->∃j,j<m/\W (i+1) j h H')/\∀x H',(gm K a).yld i H x H'->g x σ H' fun f H2=>tb {D with nx:=N,ct:=N,bk:=D.nx} f H2):=by
 refine⟨fun i m σ H=>m=xs.length-i/\i<=xs.length/\c i σ H,⟨xs.length,by simp,AW _,o⟩,?_⟩;rintro i m σ H ⟨rfl,hi,p⟩;have q:=r i σ H hi p
 by_cases d:i<xs.length
 ·refine .inr ⟨⟨xs,xs[i],q,by simp[d]⟩,c (i+1),fun h H' l=>⟨xs.length-(i+1),ω,rfl,d,l⟩,fun x H' y=>?_⟩
  obtain⟨e,y⟩:=y;subst e;exact hs i x σ _ (y xs q) p
 ·have e:i=xs.length:=ω
  subst e;exact .inl ⟨⟨xs,q,Ag _⟩,hd σ H p⟩
def pj{lo:Int}{n:Nat}{g:TG}{tb:TS}{D:Ends}{σ:St}{H:Hp}(c:Nat->St->Hp->Prop)(l:c 0 σ H)(hs:∀i σ H,i<n->c i σ H->g (.int (lo+i)) σ H fun d H2=>tb {D with nx:=c (i+1),ct:=c (i+1),bk:=D.nx} d H2)(hd:∀σ H,c n σ H->D.nx σ H):∃W:Nat->Nat->St->Hp->Prop,(∃m,W 0 m σ H)/\∀i m σ H,W i m σ H->
   ((gn lo n).stop i H/\D.nx σ H)\/((gn lo n).go i H/\∃N:St->Hp->Prop,(∀f H',N f H'->∃h,h<m/\W (i+1) h f H')/\∀x H',(gn lo n).yld i H x H'->g x σ H' fun d H2=>tb {D with nx:=N,ct:=N,bk:=D.nx} d H2):=by
 refine⟨fun i m σ H=>m=n-i/\i<=n/\c i σ H,⟨n,by simp,AW _,l⟩,?_⟩;rintro i m σ H ⟨rfl,hi,p⟩
 by_cases a:i<n
 ·refine .inr ⟨a,c (i+1),fun f H' j=>⟨n-(i+1),ω,rfl,a,j⟩,fun x H' y=>?_⟩
  obtain⟨e,y⟩:=y;subst e y;exact hs i σ _ a p
 ·have e:i=n:=ω
  subst e;exact .inl ⟨Ag _,hd σ H p⟩
abbrev R2:=V->V->Hp->VK->Prop
def bZ(X:Cx)(f:Value->Value->Sem Value)(r:R2):Prop:=
 ∀(aa:Ψ)(s:Shared)(σ:St)(H:Hp)(x y:V)(v u:Value)(Q:VK),Inv X aa σ H s->RelV x v->RelV y u->r x y H Q->
  wpAny (model X.prog X.w) X.A (f v u) (EP X aa σ Q) X.xe s
def pk(X:Cx)(f:Value->Sem Value)(r:V->Hp->VK->Prop):Prop:=
 ∀(aa:Ψ)(s:Shared)(σ:St)(H:Hp)(x:V)(v:Value)(Q:VK),Inv X aa σ H s->RelV x v->r x H Q->
  wpAny (model X.prog X.w) X.A (f v) (EP X aa σ Q) X.xe s
def dg(X:Cx)(f:Value)(r:List V->Hp->VK->Prop):Prop:=
 ∀(aa:Ψ)(s:Shared)(σ:St)(H:Hp)(xs:List V)(us:List Value)(Q:VK),Inv X aa σ H s->Vals xs us->r xs H Q->
  wpAny (model X.prog X.w) X.A (call f us) (EP X aa σ Q) X.xe s
def cV(r:R2)(ta tb:TE):TE:=fun σ H Q=>ta σ H fun x H1=>tb σ H1 fun y H2=>r x y H2 Q
def C8(r:V->Hp->VK->Prop)(ta:TE):TE:=fun σ H Q=>ta σ H fun x H1=>r x H1 Q
def rI(C:Int->Int->Prop)(g:Int->Int->V):R2:=fun x y H Q=>∃i j,x=.int i/\y=.int j/\C i j/\Q (g i j) H
def fg(g:Int->Int->V):R2:=fun x y H Q=>∃i j,x=.int i/\y=.int j/\Q (g i j) H
def rU(g:Int->V):V->Hp->VK->Prop:=fun x H Q=>∃i,x=.int i/\Q (g i) H
section
variable{X:Cx}{a b c:Expr}{ta tb tc:TE}{pos:Pos}
def iz(o:PE X a ta)(hb:PE X b tb){aa:Ψ}{s:Shared}{σ:St}{H:Hp}{R:V->V->Hp->Prop}(I:Inv X aa σ H s)(h:ta σ H fun x H1=>tb σ H1 fun y H2=>R x y H2){Q:Ω}{f:Value->Value->Sem Value}(hf:∀v u c x y H2,Inv X aa σ H2 c->RelV x v->RelV y u->R x y H2->wpAny (model X.prog X.w) X.A (f v u) Q X.xe c):wpAny (model X.prog X.w) X.A (eval a X.env) (fun v d=>wpAny (model X.prog X.w) X.A (eval b X.env) (fun u e=>wpAny (model X.prog X.w) X.A (f v u) Q X.xe e) X.xe d) X.xe s:=by
 refine bd (o aa s σ H _ I h) fun v g ⟨x,H1,p,i,q1⟩=>?_;refine bd (hb aa g σ H1 _ p q1) fun u c ⟨y,H2,q,j,l⟩=>?_;exact hf v u c x y H2 q i j l
def zv{op:Operator}{r:R2}(f:bZ X (binaryOp op) r)(g:PE X a ta)(hb:PE X b tb):PE X (.BinOp a op b pos) (cV r ta tb):=by
 intro aa s σ H Q I h;exact wpAny_BinOp (iz g hb I h fun v u c x y H2 i d e q=>f aa c σ H2 x y v u Q i d e q)
def C9{op:UnaryOp}{r:V->Hp->VK->Prop}(e:pk X (unaryOp op) r)(f:PE X a ta):PE X (.UnaryOp op a pos) (C8 r ta):=by
 intro aa s σ H Q I h;exact UnaryOp_ (bd (f aa s σ H _ I h) fun v c ⟨x,H1,g,d,q1⟩=>e aa c σ H1 x v Q g d q1)
def mI{f:Value->Value->Sem Value}{C:Int->Int->Prop}{g:Int->Int->Int}(rule:∀(i j:Int)(t u:Tok)(s:Shared)(Q:Ω)(E:Ω),C i j->Q (.int (g i j) s.toks) {s with toks:=s.toks+1}->wpAny (model X.prog X.w) X.A (f (.int i t) (.int j u)) Q E s):bZ X f (rI C fun i j=>.int (g i j)):=by
 intro aa s σ H x y v u Q I a c h;obtain⟨i,j,rfl,rfl,hc,q⟩:=h;obtain⟨t,rfl⟩:=a;obtain⟨t',rfl⟩:=c;exact rule i j t t' s _ _ hc ⟨.int (g i j),H,I.tok _,⟨_,rfl⟩,q⟩
def kh{f:Value->Value->Sem Value}{g:Int->Int->Int}(rule:∀(i j:Int)(t u:Tok)(s:Shared)(Q:Ω)(E:Ω),Q (.int (g i j) s.toks) {s with toks:=s.toks+1}->wpAny (model X.prog X.w) X.A (f (.int i t) (.int j u)) Q E s):bZ X f (fg fun i j=>.int (g i j)):=by
 intro aa s σ H x y v u Q I a c h;obtain⟨i,j,rfl,rfl,q⟩:=h;obtain⟨t,rfl⟩:=a;obtain⟨t',rfl⟩:=c;exact rule i j t t' s _ _ ⟨.int (g i j),H,I.tok _,⟨_,rfl⟩,q⟩
def gA{f:Value->Value->Sem Value}{g:Int->Int->Bool}(rule:∀(i j:Int)(t u:Tok)(s:Shared)(Q:Ω)(E:Ω),Q (.bool (g i j)) s->wpAny (model X.prog X.w) X.A (f (.int i t) (.int j u)) Q E s):bZ X f (fg fun i j=>.bl (g i j)):=by
 intro aa s σ H x y v u Q I a c h;obtain⟨i,j,rfl,rfl,q⟩:=h;obtain⟨t,rfl⟩:=a;obtain⟨t',rfl⟩:=c;exact rule i j t t' s _ _ ⟨.bl (g i j),H,I,rfl,q⟩
def pl(i j:Int):Prop:=0<j/\j<1073741824
def kn(i j:Int):Prop:=0<=j/\j<=1000000/\i.natAbs<2 ^ 64
def CMul(i j:Int):Prop:=(-(2 ^ 64)<i/\i<2 ^ 64)\/(-(2 ^ 64)<j/\j<2 ^ 64)
def CMul.ok{i j:Int}(h:CMul i j):IntMulOk i j:=by
 rcases h with ⟨h1,h2⟩|⟨h1,h2⟩
 ·exact .of_left (intBits_le_64 h1 h2)
 ·exact .of_right (intBits_le_64 h1 h2)
def dD:bZ X (binaryOp .Add) (fg fun i j=>.int (i+j)):=kh fun _ _ _ _ _ _ _ q=>add_int q
def C_:bZ X (binaryOp .Sub) (fg fun i j=>.int (i-j)):=kh fun _ _ _ _ _ _ _ q=>sub_int q
def iA:bZ X (binaryOp .Mult) (rI CMul fun i j=>.int (i*j)):=mI fun _ _ _ _ _ _ _ hc q=>mul_int q hc.ok
def wH:bZ X (binaryOp .FloorDiv) (rI pl fun i j=>.int (i / j)):=mI fun i j _ _ _ _ _ hc q=>by
 have h1:(0:Int)<j:=hc.1;have h2:j<1073741824:=hc.2;exact floordiv_int ω (by rw[Int.fdiv_eq_ediv_of_nonneg i ω];exact q) (.inl (PyProof.noPylong_small ω))
def iB:bZ X (binaryOp .Mod) (rI (fun _ j=>0<j) fun i j=>.int (i%j)):=mI fun i j _ _ _ _ _ hc q=>by
 have h1:(0:Int)<j:=hc;exact mod_int' ω (by rw[Int.fmod_eq_emod_of_nonneg i ω];exact q)
def pq:bZ X (binaryOp .Pow) (rI kn fun i j=>.int (i ^ j.toNat)):=mI fun _ _ _ _ _ _ _ hc q=>pow_int_small hc.1 hc.2.1 hc.2.2 q
def Da{f:Value->Sem Value}{g:Int->Int}(rule:∀(i:Int)(t:Tok)(s:Shared)(Q:Ω)(E:Ω),Q (.int (g i) s.toks) {s with toks:=s.toks+1}->wpAny (model X.prog X.w) X.A (f (.int i t)) Q E s):pk X f (rU fun i=>.int (g i)):=by
 intro aa s σ H x v Q I a h;obtain⟨i,rfl,q⟩:=h;obtain⟨t,rfl⟩:=a;exact rule i t s _ _ ⟨.int (g i),H,I.tok _,⟨_,rfl⟩,q⟩
def Db:pk X (unaryOp .USub) (rU fun i=>.int (-i)):=Da fun _ _ _ _ _ q=>neg_int q
end
def kq:V->V->Bool
 |.non,.non=>true|.non,.int _=>true|.int _,.non=>true|.non,.bl _=>true|.bl _,.non=>true|.non,.str _=>true|.str _,.non=>true
 |.int _,.int _=>true|.bl _,.bl _=>true|.str _,.str _=>true|.byt _,.byt _=>true
 |.int _,.str _=>true|.str _,.int _=>true|.bl _,.str _=>true|.str _,.bl _=>true
 |_,_=>false
def Dc:R2:=fun x y H Q=>kq x y=true/\Q (.bl (decide (x=y))) H
def Dd:R2:=fun x y H Q=>kq x y=true/\Q (.bl (!decide (x=y))) H
def wI{i j:Int}:decide (V.int i=V.int j)=(i==j):=by
 rw[Bool.eq_iff_iff];simp
def fO{i j:Bool}:decide (V.bl i=V.bl j)=(i==j):=by
 rw[Bool.eq_iff_iff];simp
def wJ{i j:Str}:decide (V.str i=V.str j)=(i==j):=by
 rw[Bool.eq_iff_iff];simp
def wK{i j:Array UInt8}:decide (V.byt i=V.byt j)=(i.toList==j.toList):=by
 rw[Bool.eq_iff_iff];cases i;cases j;simp
section
variable{X:Cx}{a b c:Expr}{ta tb tc:TE}{pos:Pos}
def aC{aa:Ψ}{σ:St}{H:Hp}{s:Shared}{Q:VK}{k a:Bool}(I:Inv X aa σ H s)(q:Q (.bl k) H)(e:k=a):EP X aa σ Q (.bool a) s:=by
 subst e;exact⟨.bl k,H,I,rfl,q⟩
def dI:bZ X (compareOp .Eq) Dc:=by
 intro aa s σ H x y v u Q I c a h;obtain⟨hs,q⟩:=h;cases x with
 |non=>
  cases c;cases y with
  |non=>cases a;exact PySem.EqNone.eq_none_none (aC I q (by simp))
  |bl j=>cases a;exact PySem.EqNone.eq_none_bool (aC I q (by simp))
  |int j=>obtain⟨t',rfl⟩:=a;exact PySem.EqNone.eq_none_int (aC I q (by simp))
  |str j=>obtain⟨t',rfl⟩:=a;exact PySem.EqNone.eq_none_str (aC I q (by simp))
  |_=>exact absurd (show false=true from hs) Ax
 |bl i=>
  cases c;cases y with
  |non=>cases a;exact PySem.EqNone.eq_bool_none (aC I q (by simp))
  |bl j=>cases a;exact eq_bool (aC I q fO)
  |str j=>obtain⟨t',rfl⟩:=a;exact PySem.EqMixed.eq_bool_str (aC I q (by simp))
  |_=>exact absurd (show false=true from hs) Ax
 |int i=>
  obtain⟨t,rfl⟩:=c;cases y with
  |non=>cases a;exact PySem.EqNone.eq_int_none (aC I q (by simp))
  |int j=>obtain⟨t',rfl⟩:=a;exact eq_int (aC I q wI)
  |str j=>obtain⟨t',rfl⟩:=a;exact PySem.EqMixed.eq_int_str (aC I q (by simp))
  |_=>exact absurd (show false=true from hs) Ax
 |str i=>
  obtain⟨t,rfl⟩:=c;cases y with
  |non=>cases a;exact PySem.EqNone.eq_str_none (aC I q (by simp))
  |bl j=>cases a;exact PySem.EqMixed.eq_str_bool (aC I q (by simp))
  |int j=>obtain⟨t',rfl⟩:=a;exact PySem.EqMixed.eq_str_int (aC I q (by simp))
  |str j=>obtain⟨t',rfl⟩:=a;exact eq_str (aC I q wJ)
  |_=>exact absurd (show false=true from hs) Ax
 |byt i=>
  obtain⟨t,rfl⟩:=c;cases y with
  |byt j=>obtain⟨t',rfl⟩:=a;exact PySem.W.eq_bytes (aC I q wK)
  |_=>exact absurd (show false=true from hs) Ax
 |_=>cases y<;>exact absurd (show false=true from hs) Ax
def pu:bZ X (compareOp .NotEq) Dd:=by
 intro aa s σ H x y v u Q I c a h;obtain⟨hs,q⟩:=h;cases x with
 |non=>
  cases c;cases y with
  |non=>cases a;exact PySem.EqNone.ne_none_none (aC I q (by simp))
  |bl j=>cases a;exact PySem.EqNone.ne_none_bool (aC I q (by simp))
  |int j=>obtain⟨t',rfl⟩:=a;exact PySem.EqNone.ne_none_int (aC I q (by simp))
  |str j=>obtain⟨t',rfl⟩:=a;exact PySem.EqNone.ne_none_str (aC I q (by simp))
  |_=>exact absurd (show false=true from hs) Ax
 |bl i=>
  cases c;cases y with
  |non=>cases a;exact PySem.EqNone.ne_bool_none (aC I q (by simp))
  |bl j=>cases a;exact ne_bool (aC I q (congrArg not fO))
  |str j=>obtain⟨t',rfl⟩:=a;exact PySem.EqMixed.ne_bool_str (aC I q (by simp))
  |_=>exact absurd (show false=true from hs) Ax
 |int i=>
  obtain⟨t,rfl⟩:=c;cases y with
  |non=>cases a;exact PySem.EqNone.ne_int_none (aC I q (by simp))
  |int j=>obtain⟨t',rfl⟩:=a;exact ne_int (aC I q (congrArg not wI))
  |str j=>obtain⟨t',rfl⟩:=a;exact PySem.EqMixed.ne_int_str (aC I q (by simp))
  |_=>exact absurd (show false=true from hs) Ax
 |str i=>
  obtain⟨t,rfl⟩:=c;cases y with
  |non=>cases a;exact PySem.EqNone.ne_str_none (aC I q (by simp))
  |bl j=>cases a;exact PySem.EqMixed.ne_str_bool (aC I q (by simp))
  |int j=>obtain⟨t',rfl⟩:=a;exact PySem.EqMixed.ne_str_int (aC I q (by simp))
  |str j=>obtain⟨t',rfl⟩:=a;exact ne_str (aC I q (congrArg not wJ))
  |_=>exact absurd (show false=true from hs) Ax
 |byt i=>
  obtain⟨t,rfl⟩:=c;cases y with
  |byt j=>obtain⟨t',rfl⟩:=a;exact PySem.W.ne_bytes (aC I q (congrArg not wK))
  |_=>exact absurd (show false=true from hs) Ax
 |_=>cases y<;>exact absurd (show false=true from hs) Ax
def jl:bZ X (compareOp .Lt) (fg fun i j=>.bl (decide (i<j))):=gA fun _ _ _ _ _ _ _ q=>lt_int q
def iC:bZ X (compareOp .LtE) (fg fun i j=>.bl (decide (i<=j))):=gA fun _ _ _ _ _ _ _ q=>le_int q
def gU:bZ X (compareOp .Gt) (fg fun i j=>.bl (decide (j<i))):=gA fun _ _ _ _ _ _ _ q=>gt_int q
def De:bZ X (compareOp .GtE) (fg fun i j=>.bl (decide (j<=i))):=gA fun _ _ _ _ _ _ _ q=>ge_int q
def Dg:bZ X (compareOp .In) (fun x y H Q=>∃i j,x=.str i/\y=.str j/\Q (.bl (!(Builtin.Str.occurrences j i 0 j.length 1).isEmpty)) H):=by
 intro aa s σ H x y v u Q I a c h;obtain⟨i,j,rfl,rfl,q⟩:=h;obtain⟨t,rfl⟩:=a;obtain⟨t',rfl⟩:=c;exact in_str (aC I q rfl)
def Dh:bZ X (compareOp .Is) (fun x y H Q=>y=.non/\Q (.bl (decide (x=.non))) H):=by
 intro aa s σ H x y v u Q I a c h;obtain⟨rfl,q⟩:=h;cases c;refine is_none_gen (aC I q ?_);cases x<;>first
  |(cases a;rfl)
  |(obtain⟨t,rfl⟩:=a;rfl)
def Di:bZ X (compareOp .NotIn) (fun x y H Q=>∃i j,x=.str i/\y=.str j/\Q (.bl (!(!(Builtin.Str.occurrences j i 0 j.length 1).isEmpty))) H):=by
 intro aa s σ H x y v u Q I a c h;obtain⟨i,j,rfl,rfl,q⟩:=h;obtain⟨t,rfl⟩:=a;obtain⟨t',rfl⟩:=c;exact notIn_str (aC I q rfl)
def au(b:Expr){op:CmpOp}(h:op≠.In:=by decide)(h2:op≠.NotIn:=by decide):behindInMarks op b=false:=by
 have e1:(op==CmpOp.In)=false:=by cases op<;>first|rfl|exact absurd rfl h
 have e2:(op==CmpOp.NotIn)=false:=by cases op<;>first|rfl|exact absurd rfl h2
 cases b<;>simp[behindInMarks,e1,e2]
def gY{op:CmpOp}{r:R2}(f:bZ X (compareOp op) r)(g:PE X a ta)(hb:PE X b tb)(hm:behindInMarks op b=false):PE X (.Compare a [op] [b] pos) (cV r ta tb):=by
 intro aa s σ H Q I h;exact wpAny_Compare1 (iz g hb I h fun v u c x y H2 i d e q=>f aa c σ H2 x y v u Q i d e q) hm
def jm(t:TE):TT:=fun σ H Q=>t σ H fun x H'=>∃k,x=.bl k/\Q k H'
def zq{op:CmpOp}{r:R2}(p:bZ X (compareOp op) r)(q:PE X a ta)(hb:PE X b tb)(hm:behindInMarks op b=false):PT X (.Compare a [op] [b] pos) (jm (cV r ta tb)):=by
 intro aa s σ H Q I h;refine wpAny_isTrue_Compare1 (bd (q aa s σ H _ I h) fun v d ⟨x,H1,w,f,q1⟩=>bd (hb aa d σ H1 _ w q1) fun u g ⟨y,H2,A,i,j⟩=>
  bd (p aa g σ H2 x y v u _ A f i j) fun c E ⟨z,C,D,l,k,e,o⟩=>?_) hm
 subst e;cases l;exact wpAny_truthy_bool ⟨C,D,o⟩
def Dj(r d:R2)(ta tb tc:TE):TE:=fun σ H Q=>ta σ H fun x H1=>tb σ H1 fun y H2=>r x y H2 fun z a=>∃k,z=.bl k/\
 (if k=true then tc σ a fun c e=>d y c e Q else Q (.bl false) a)
def pB{op f:CmpOp}{r j:R2}(S:bZ X (compareOp op) r)(T:bZ X (compareOp f) j)(U:PE X a ta)(hb:PE X b tb)(hc:PE X c tc)(hm:lastMarks [op,f] [b,c]=false:=by with_unfolding_all rfl):PT X (.Compare a [op,f] [b,c] pos) (jm (Dj r j ta tb tc)):=by
 intro aa s σ H Q I h;refine isTrue_chain (bd (U aa s σ H _ I h) fun v p ⟨x,H1,W,q,q1⟩=>test_link (bd (hb aa p σ H1 _ W q1) fun u w ⟨y,H2,Y,g,A⟩=>
  bd (S aa w σ H2 x y v u _ Y q g A) fun d C ⟨z,l,o,D,k,e,i⟩=>?_)) hm
 subst e;cases D;refine wpAny_truthy_bool ?_;cases k with
 |false=>
  obtain⟨k',O,P⟩:=i;cases O;exact ite_ff ⟨l,o,P⟩
 |true=>
  refine ite_tt (test_last (bd (hc aa C σ l _ o i) fun E F ⟨G,Z,I4,J,L⟩=>bd (T aa F σ Z y G u E _ I4 g J L) fun d' s5 ⟨z2,H5,I5,M,k2,e2,N⟩=>?_));subst e2;cases M;exact wpAny_truthy_bool ⟨H5,I5,N⟩
def cu:(sizeLine:Nat)<2 ^ 63:=by rw[sizeLine_eq];decide
def kr:bZ X (binaryOp .Add) (fun x y H Q=>∃i j,x=.str i/\y=.str j/\i.length+j.length<=sizeLine/\Q (.str (i++j)) H):=by
 intro aa s σ H x y v u Q I a c h;obtain⟨i,j,rfl,rfl,d,q⟩:=h;obtain⟨t,rfl⟩:=a;obtain⟨t',rfl⟩:=c;exact add_str (fun t' tk=>⟨.str (i++j),H,I.tok _,⟨_,rfl⟩,q⟩) d
def vals1{x:V}{us:List Value}(r:Vals [x] us):∃u,us=[u]/\RelV x u:=by
 cases r with
 |cons r1 r2=>cases r2;exact⟨_,rfl,r1⟩
def vals2{x y:V}{us:List Value}(r:Vals [x,y] us):∃u a,us=[u,a]/\RelV x u/\RelV y a:=by
 cases r with
 |cons r1 r2=>
  cases r2 with
  |cons r3 r4=>cases r4;exact⟨_,_,rfl,r1,r3⟩
def kw:dg X (.type "str") (fun xs H Q=>∃i,xs=[.int i]/\i.natAbs.log2<1920/\Q (.str (toString i)) H):=by
 intro aa s σ H xs us Q I r h;obtain⟨i,rfl,a,q⟩:=h;obtain⟨u,rfl,t,rfl⟩:=vals1 r;exact PySem.P.str_of_int a ⟨.str _,H,I.tok _,⟨_,rfl⟩,q⟩
end
structure pC(h:Heap)(x dx C:Addr)(mA:Str->Option Value):Prop where
 obj:h.get? x=some (PySem.W.instObj C dx)
 ns:h.Ns1 dx mA
 ne:dx≠x
section
variable{P:Program}{w:World}{H H':Hp}{h h':Heap}{a C dx:Addr}{fs qW:List (Str×V)}
def fi(c:HOk P w H h)(e:H a=some (.ins C dx fs)):∃mA,pC h a dx C mA/\(∀f,RelO (fs.lookup f) (mA f))/\PySem.Within mA (fs.map (·.1))/\fs.length<=1000/\H dx=some (.own a):=by
 obtain⟨d,z,ne,g,mA,n,r,q⟩:=(show zQ P w H h a (.ins C dx fs) from c a _ e);exact⟨mA,⟨g,n,ne⟩,r,q,z,d⟩
end
structure Cls(K:Ae)(C:Addr):Prop where
 pg:PySem.W.plainGet K C Str.empty=true
 hd:PySem.W.hasDictIn K C=true
 po:PySem.W.plainOver K C=true
 sa:PySem.W.findIn K (.ref C) "__setattr__"=some (some (.builtin "object.__setattr__"))
def Cls.get{K:Ae}{C:Addr}(c:Cls K C)(f:Str):PySem.W.plainGet K C f=true:=c.pg
structure Room(k:Nat)(A:Around):Prop where
 hd:A.handled=none
 dp:A.depth+3*k+5<recursionLimit
 un:A.units+16*k+200<cLine
def Room.mono{j k:Nat}{A:Around}(r:Room k A)(h:j<=k):Room j A:=⟨r.hd,by have:=r.dp;omega,by have:=r.un;omega⟩
def Room.deeper{k:Nat}{A:Around}(r:Room (k+1) A)(env:Env):Room k (A.deeper env):=
 ⟨r.hd,by have:=r.dp;show A.depth+1+3*k+5<_;omega,by have:=r.un;show A.units+3+16*k+200<_;omega⟩
def Room.in1{k:Nat}{A:Around}(r:Room (k+1) A):Room k A.in1:=
 ⟨r.hd,by have:=r.dp;show A.depth+3*k+5<_;omega,by have:=r.un;show A.units+1+16*k+200<_;omega⟩
def Room.depth{k:Nat}{A:Around}(r:Room k A):A.depth<recursionLimit:=by have:=r.dp;omega
def Room.units{k:Nat}{A:Around}(r:Room k A):A.units+64<cLine:=by have:=r.un;omega
def bJ:TA:=fun _ H Q=>Q [] H
def zB(ta:TE)(a:TA):TA:=fun σ H Q=>ta σ H fun x H1=>a σ H1 fun xs H2=>Q (x::xs) H2
section
variable{X:Cx}{e:Expr}{es:List Expr}{te:TE}{t:TA}{pos:Pos}
def aq:PA X [] bJ:=fun _ _ _ _ H Q I h=>Calls.spliced_nil ⟨[],H,I,.nil,h⟩
def ae(g:PE X e te)(hr:PA X es t)(hs:starEach (e::es) X.env=(false,eval e X.env)::starEach es X.env:=by rfl):PA X (e::es) (zB te t):=by
 intro pos aa s σ H Q I h;rw[hs];show wpAny _ _ (spliced ((false,eval e X.env)::backTo pos (starEach es X.env))) _ _ s;refine Calls.spliced_cons (bd (g aa s σ H _ I h) fun u a ⟨x,H1,i,c,q1⟩=>?_);exact bd (hr pos aa a σ H1 _ i q1) fun us l ⟨xs,H2,j,d,f⟩=>⟨x::xs,H2,j,.cons c d,f⟩
def fo(t:TA):TE:=fun σ H Q=>t σ H fun xs H1=>xs.length<=sizeLine/\∀p,H1 p=none->Q (.ref p) (upd H1 p (.tup xs))
def pH(t:TA):TE:=fun σ H Q=>t σ H fun xs H1=>xs.length<=sizeLine/\∀p,H1 p=none->Q (.ref p) (upd H1 p (.lst xs))
def iD{x1}(h:PA X es t):PE X (.Tuple es x1 pos) (fo t):=by
 intro aa s σ H Q I hq;refine wpAny_Tuple_spliced (bd (h pos aa s σ H _ I hq) fun us a ⟨xs,H1,I1,r,z,q⟩=>⟨by rw[<-r.length];exact z,?_⟩);have hf:H1 a⁻¹=none:=I1.hok.fresh (Ag _);refine⟨.ref a⁻¹,upd H1 a⁻¹ (.tup xs),I1.laid (t':=a.toks) (fun b u e=>Ac _ e) (Ag _) ?_,rfl,q _ hf⟩;exact⟨z,us,r,⟨_,Av _ rfl,rfl,_,rfl⟩⟩
def zI(h:PA X es t):PE X (.List es pos) (pH t):=by
 intro aa s σ H Q I hq;refine wpAny_List_spliced (bd (h pos aa s σ H _ I hq) fun us a ⟨xs,H1,I1,r,z,q⟩=>⟨by rw[<-r.length];exact z,?_⟩);have hf:H1 a⁻¹=none:=I1.hok.fresh (Ag _);refine⟨.ref a⁻¹,upd H1 a⁻¹ (.lst xs),I1.laid (t':=a.toks) (fun b u e=>Ac _ e) (Ag _) ?_,rfl,q _ hf⟩;exact⟨z,us,0,r,Av _ rfl⟩
end
abbrev Sp:=List V->Hp->VK->XK->Prop
abbrev ei:=List Env->Hp->Shared->XK->Ω
structure Env0(P:Program)(w:World)(K:Ae)(mg:Str->Option Value)(base:Heap)(A:Around)(outer:List Env)(s:Shared)(H:Hp):Prop where
 frames:A.frames=some outer
 mod:Mod K mg base
 bs:∀b o,base.get? b=some o->s.heap.get? b=some o/\H b=none
 bsz:base.objs.size<=s⁻¹
 funs:s.heap.FunFrames base outer
 frf:∀b∈frs outer,H b=none
 hok:HOk P w H s.heap
 bare:AllBare s.gens
def CE(outer:List Env)(P:Program)(w:World)(H:Hp)(s:Shared)(Q:VK)(u:Value)(s':Shared):Prop:=
 ∃v H',s'.os=s.os/\AllBare s'.gens/\Un (frs outer) [] H H' s.heap s'.heap/\HOk P w H' s'.heap/\RelV v u/\Q v H'
def CR(CX:ei)(outer:List Env)(P:Program)(w:World)(H:Hp)(s:Shared)(Q:VK)(E:XK)(r:Result)(s':Shared):Prop:=
 match r with
 |.ok (.ret u)=>CE outer P w H s Q u s'
 |.ok _=>False
 |.error e=>CX outer H s E e s'
structure FnOk(P:Program)(w:World)(K:Ae)(mg:Str->Option Value)(base:Heap)(CX:ei)(k:Nat)(f:Addr)(fd:FuncData)(ps:List Str)(sp:Sp):Prop where
 len:∀vs H Q E,sp vs H Q E->vs.length=ps.length
 run:∀(A:Around)(outer:List Env)(s:Shared)(H:Hp)(args:Args)(us:List Value)(vs:List V)(Q:VK)(E:XK),Room k A->Env0 P w K mg base A outer s H->BindsTo s fd args (ps.zip us)->Vals vs us->sp vs H Q E->
  codeAny (model P w) A (.call (.ref f) args) (CR CX outer P w H s Q E) s
def Env0.in1{P:Program}{w:World}{K:Ae}{mg:Str->Option Value}{base:Heap}{A:Around}{outer:List Env}{s:Shared}{H:Hp}(e:Env0 P w K mg base A outer s H):Env0 P w K mg base A.in1 outer s H:=⟨e.frames,e.mod,e.bs,e.bsz,e.funs,e.frf,e.hok,e.bare⟩
section
variable{X:Cx}{aa:Ψ}{σ:St}{H:Hp}{s s':Shared}
def Inv.env0(I:Inv X aa σ H s):Env0 X.prog X.w X.K X.mg X.base X.A X.stack s H:=
 ⟨I.ok.frames,I.ok.mod,I.bs,AA I.ok.bsz I.sz,I.stack,I.stkFree,I.hok,I.bare⟩
def Inv.after{Q:VK}{u:Value}(I:Inv X aa σ H s)(h:CE X.stack X.prog X.w H s Q u s'):EP X aa σ Q u s':=by
 obtain⟨v,H',os,a,un,c,r,q⟩:=h;obtain⟨e,g,d,t,f⟩:=s';obtain rfl:f=s.os:=os;exact⟨v,H',I.call (h':=e) (g':=g) (d':=d) (t':=t) (ch:=[]) un c a (fun b z=>absurd z (by simp)),r,q⟩
end
def jn(sp:Sp)(dy:List V)(E:XK)(t:TA):TE:=fun σ H Q=>t σ H fun vs H1=>sp (vs++dy) H1 Q E
def Binds(K:Ae)(fd:FuncData)(ps:List Str)(ds:List Value):Prop:=
 ∀(s:Shared)(us:List Value),K.In s.heap->(us++ds).length=ps.length->BindsTo s fd ⟨us,[]⟩ (ps.zip (us++ds))
def Binds.all{K:Ae}{fd:FuncData}{ps:List Str}(h:∀us:List Value,us.length=ps.length->bindArgs fd ⟨us,[]⟩=pure (ps.zip us)):Binds K fd ps []:=fun s us _ a=>by
 rw[List.append_nil] at a ⊢;exact .of_eq (h us a)
def b8(CX:ei)(X:Cx)(E:XK):Prop:=∀(aa:Ψ)(σ:St)(H:Hp)(s:Shared)(e:Value)(s':Shared),Inv X aa σ H s->CX X.stack H s E e s'->X.xe e s'
section
variable{X:Cx}{CX:ei}{k:Nat}{f C:Addr}{fd:FuncData}{ps:List Str}{sp:Sp}{dy:List V}{ds:List Value}{E:XK}{x m:Str}{p pos cx:Pos}{e o:Expr}{es:List Expr}{ta:TE}{t:TA}
def Dl{aa:Ψ}{σ:St}{H:Hp}{s:Shared}{Q:VK}{us:List Value}{vs:List V}(F:FnOk X.prog X.w X.K X.mg X.base CX k f fd ps sp)(hr:Room k X.A)(hb:Binds X.K fd ps ds)(hd:Vals dy ds)(hx:b8 CX X E)(I:Inv X aa σ H s)(r:Vals vs us)(h:sp (vs++dy) H Q E):wpAny (model X.prog X.w) X.A (call (.ref f) us) (EP X aa σ Q) X.xe s:=by
 have a:Vals (vs++dy) (us++ds):=r.append hd;have c:(us++ds).length=ps.length:=by rw[<-a.length];exact F.len _ _ _ _ h
 refine wpAny_call (codeAny_mono (F.run X.A X.stack s H ⟨us,[]⟩ (us++ds) (vs++dy) Q E hr I.env0 (hb s us I.kIn c) a h) fun r s' hq=>?_);cases r with
 |error e=>exact hx aa σ H s e s' I hq
 |ok fl=>
  cases fl with
  |ret u=>exact I.after hq
  |next=>exact False.elim hq
  |brk=>exact False.elim hq
  |cont=>exact False.elim hq
def zx(F:FnOk X.prog X.w X.K X.mg X.base CX k f fd ps sp)(hr:Room k X.A)(c:Gl X x)(hm:X.mg x=some (.ref f))(hk:PySem.W.keepIn X.K (.ref f)=true)(hb:Binds X.K fd ps ds)(hd:Vals dy ds)(hx:b8 CX X E)(d:PA X (e::es) t)(g:(x==("__debug__":Str))=false:=by decide)(he:starEach (e::es) X.env=(false,eval e X.env)::starEach es X.env:=by rfl)(a:(backTo pos (starEach es X.env)).any (·.1)=false:=by rfl):PE X (.Call (.Name x p) (e::es) [] pos) (jn sp dy E t):=by
 intro aa s σ H Q I h;refine wpAny_Call_Name_kw (j6 I c hm ?_ g);refine PySem.W.callWith_K (h₀:=X.base) I.ok.mod.kin hk (bd (d pos aa s σ H _ I h) fun us i ⟨vs,H1,I1,r,q⟩=>⟨I1.kIn,?_⟩) he a;exact Dl F hr hb hd hx I1 r q
structure Mk(K:Ae)(C f:Addr):Prop where
 makes:PySem.W.makesIn K C=true
 init:PySem.W.findIn K (.ref C) "__init__"=some (some (.ref f))
 fn:PySem.W.isFn K (.ref f)=true
 kp:PySem.W.keepIn K (.ref C)=true
end
structure zo(N P:List Str)(sc:Scope):Prop where
 kind:sc.kind=.function
 co:sc.isCoroutine=false
 gen:sc.isGenerator=false
 nd:N.Nodup
 pre:N.take P.length=P
 par:∀x∈P,sc.names.lookup x=some .local\/sc.names.lookup x=some .cell
 nofree:∀y∈sc.names,y.2≠.free
def wL{kindOf:Str->Option NameKind}{x:Str}:∀{binds:List (Str×Value)}{m:Str->Option Value},(∀v,(x,v)∉binds)->bindL kindOf binds m x=m x
 |[],_,_=>rfl
 |(n,v)::r,m,h=>by
  unfold bindL;rw[wL fun w hw=>h w (An _ hw)];split
  ·have:x≠n:=by rintro rfl;exact h v Aj
   simp[this]
  ·rfl
def wM{kindOf:Str->Option NameKind}{x:Str}:∀{binds:List (Str×Value)}{m:Str->Option Value},(∀v,(x,v)∉binds)->bindC kindOf binds m x=m x
 |[],_,_=>rfl
 |(n,v)::r,m,h=>by
  unfold bindC;rw[wM fun w hw=>h w (An _ hw)];split
  ·rfl
  ·have:x≠n:=by rintro rfl;exact h v Aj
   simp[this]
def wN{kindOf:Str->Option NameKind}{x:Str}{v:Value}:∀{P:List Str}{vs:List Value}{i:Nat}{m:Str->Option Value},P.Nodup->P[i]?=some x->vs[i]?=some v->kindOf x=some .local->
  bindL kindOf (P.zip vs) m x=some v
 |[],_,_,_,_,h,_,_=>by simp at h
 |_::_,[],_,_,_,_,h,_=>by simp at h
 |p::P,w::vs,0,m,nd,h1,h2,hk=>by
  simp at h1 h2;subst h1;subst h2;show bindL kindOf ((p,w)::P.zip vs) m p=_;unfold bindL;rw[wL fun v a=>(List.nodup_cons.mp nd).1 (List.of_mem_zip a).1,if_pos hk];simp
 |p::P,w::vs,i+1,m,nd,h1,h2,hk=>by
  show bindL kindOf ((p,w)::P.zip vs) m x=_;unfold bindL;exact wN (i:=i) (List.nodup_cons.mp nd).2 (by simpa using h1) (by simpa using h2) hk
def wO{kindOf:Str->Option NameKind}{x:Str}{v:Value}:∀{P:List Str}{vs:List Value}{i:Nat}{m:Str->Option Value},P.Nodup->P[i]?=some x->vs[i]?=some v->kindOf x≠some .local->
  bindC kindOf (P.zip vs) m x=some v
 |[],_,_,_,_,h,_,_=>by simp at h
 |_::_,[],_,_,_,_,h,_=>by simp at h
 |p::P,w::vs,0,m,nd,h1,h2,hk=>by
  simp at h1 h2;subst h1;subst h2;show bindC kindOf ((p,w)::P.zip vs) m p=_;unfold bindC;rw[wM fun v a=>(List.nodup_cons.mp nd).1 (List.of_mem_zip a).1,if_neg hk];simp
 |p::P,w::vs,i+1,m,nd,h1,h2,hk=>by
  show bindC kindOf ((p,w)::P.zip vs) m x=_;unfold bindC;exact wO (i:=i) (List.nodup_cons.mp nd).2 (by simpa using h1) (by simpa using h2) hk
def start(N:List Str)(vs:List V):St:=vs.map some++List.replicate (N.length-vs.length) none
def bh(CX:ei)(P:Program)(w:World)(K:Ae)(mg:Str->Option Value)(base:Heap)(N:List Str)(a:Str)(scope:Scope)(f:Addr)(c:Value)(A:Around)(outer:List Env)(s:Shared)(H:Hp)(E:XK):Cx where
 prog:=P
 w:=w
 K:=K
 mg:=mg
 base:=base
 A:=A.deeper (envOfC a scope s⁻¹ f c)
 N:=N
 s₀:=s
 H₀:=H
 env:=envOfC a scope s⁻¹ f c
 outer:=outer
 stack:=envOfC a scope s⁻¹ f c::outer
 ex:=[]
 calm:=true
 fn:=fun _=>true
 pn:=[]
 xe:=fun e s'=>wpAny (model P w) (A.deeper (envOfC a scope s⁻¹ f c)) (leaving (envOfC a scope s⁻¹ f c) e) (fun _ d=>CX outer H s E e d) (fun g d=>CX outer H s E g d) s'
def wP{a:Scope}{n:Nat}{x:Str}(h:a.names.lookup x=some .cell):∃c,(Bk n a.names []).lookup x=some c:=by
 have q:=PySem.W.cellsFrom_some a.names n [] (.inl h);exact Option.isSome_iff_exists.mp q
def wQ{CX:ei}{P:Program}{w:World}{K:Ae}{mg:Str->Option Value}{base:Heap}{N ps:List Str}{j:Str}{scope:Scope}{f:Addr}{l:Value}{A:Around}{outer:List Env}{s C:Shared}{H:Hp}{E:XK}{us:List Value}{vs:List V}(S:zo N ps scope)(hd:A.handled=none)(d:Env0 P w K mg base A outer s H)(J:vs.length=ps.length)(r:Vals vs us)(x:InCallC s s⁻¹ (bindL (envOfC j scope s⁻¹ f l).kindOf (ps.zip us) fun _=>none) (Bk (s⁻¹+1) scope.names []) (bindC (envOfC j scope s⁻¹ f l).kindOf (ps.zip us) fun _=>none) C):Inv (bh CX P w K mg base N j scope f l A outer s H E) [] (start N vs) H C:=by
 have F:ps.length<=N.length:=by have:=congrArg List.length S.pre;rw[AI] at this;omega
 obtain⟨h1,tk,rfl,hk⟩:=x.done;have o:∀b:Addr,b∉(bh CX P w K mg base N j scope f l A outer s H E).ex:=fun b z=>absurd (show b∈([]:List Addr) from z) (by simp);refine⟨⟨d.mod,S.kind,rfl,rfl,Ag _,fun y z c h1 h2=>?_,fun y hy=>?_,fun y c _ h=>?_,fun _=>hd,Around.frames_deeper d.frames,.inr ⟨rfl,rfl⟩,fun b z=>absurd z (o b),d.bs,d.bsz,fun b _ _=>o b,fun b z=>absurd z (o b),d.funs,d.frf⟩,
  rfl,d.bare,Un.kept hk,⟨_,x.toInCall.ns,fun i y v h1 h2 I=>?_⟩,fun y c h=>⟨_,x.cell y c h⟩,d.hok.fresh (Ag _),fun y c h=>?_,fun p hp=>absurd (show p∈([]:Ψ) from hp) (by simp),d.hok.kept hk,?_⟩
 ·exact name_of_addr x.apart (AV h1) (AV h2)
 ·have hy:scope.names.lookup y=some .cell\/scope.names.lookup y=some .free:=hy
  rcases hy with hy|hy
  ·exact wP hy
  ·exact absurd rfl (S.nofree _ (AV hy))
 ·exact Nat.le_of_lt (x.above y c (AV h))
 ·have hi:i<vs.length:=by
   unfold start at h2
   by_cases hi:i<vs.length
   ·exact hi
   ·rw[List.getElem?_append_right (by simpa using hi)] at h2
    rw[List.getElem?_replicate] at h2;split at h2<;>cases h2
  have G:vs[i]?=some v:=by
   unfold start at h2;rw[List.getElem?_append_left (by simpa using hi),Ar] at h2;cases e:vs[i]? with
   |none=>rw[e] at h2;cases h2
   |some a=>rw[e] at h2;cases h2;rfl
  obtain⟨u,hu,D⟩:=r.get G;have hp:ps[i]?=some y:=by
   rw[<-S.pre,List.getElem?_take_of_lt ω];exact h1
  have g:ps.Nodup:=by rw[<-S.pre];exact S.nd.sublist (List.take_sublist _ _)
  refine⟨u,D,?_⟩;rcases S.par y (Az hp) with k|k
  ·exact .inl ⟨k,wN g hp hu k⟩
  ·obtain⟨c,e⟩:=wP (n:=s⁻¹+1) k
   refine .inr ⟨.inl k,c,e,?_⟩;have q:=x.cell y c e;rw[wO g hp hu (by show scope.names.lookup y≠_;rw[k];decide)] at q;exact q
 ·exact d.hok.fresh (Nat.le_of_lt (x.above y c (AV h)))
 ·unfold start
  show _=N.length;rw[Aq,Ab,List.length_replicate];omega
def wR{CX:ei}{P:Program}{w:World}{K:Ae}{mg:Str->Option Value}{base:Heap}{k:Nat}{f:Addr}{name a:Str}{i:Arguments}{body:List Stmt}{scope:Scope}{j kV l p cdv ct U:Value}{z X:Option Addr}{F:Array (Option Value)}{N ps:List Str}{sp:Sp}(lk:K.lookup f=some ⟨U,X,.func (PySem.W.fnOf name a i body scope j kV l p z cdv ct),F⟩)(G:PySem.W.codeIn K cdv a=true)(S:zo N ps scope)(len:∀vs H Q E,sp vs H Q E->vs.length=ps.length)(Y:∀(A:Around)(outer:List Env)(s:Shared)(H:Hp)(vs:List V)(Q:VK)(E:XK),Room k (A.deeper (envOfC a scope s⁻¹ f cdv))->sp vs H Q E->
   ∃t,PSs (bh CX P w K mg base N a scope f cdv A outer s H E) body t/\t {nx:=fun _ H'=>Q .non H',rt:=Q} (start N vs) H):
  FnOk P w K mg base CX (k+1) f (PySem.W.fnOf name a i body scope j kV l p z cdv ct) ps sp:=by
 refine⟨len,fun A outer s H args us vs Q E hr c hb r d=>?_⟩;have M:=len _ _ _ _ d;have D:K.In s.heap:=c.mod.kin.keeps fun b o e=>(c.bs b o e).1;have O:s.heap.NoLimit:=c.mod.nolimit.keeps fun b o e=>(c.bs b o e).1;have T:∀y∈ps.zip us,scope.names.lookup y.1=some .local\/(scope.names.lookup y.1=some .cell/\((Bk (s⁻¹+1) scope.names []).lookup y.1).isSome=true):=fun⟨n,v⟩ hy=>by
  rcases S.par n (List.of_mem_zip hy).1 with q|q
  ·exact .inl q
  ·exact .inr ⟨q,PySem.W.cellsFrom_some _ _ _ (.inl q)⟩
 refine codeAny_call_function hr.depth (D _ _ lk) rfl S.co S.gen rfl (PySem.W.codeRec_of D G) (hb _ _ _ _ ?_);refine wpAny_newFunctionEnv_cells S.kind T fun env he C x=>?_;subst he;refine⟨O.keeps x.toInCall.keep,codeAny_func ?_⟩;obtain⟨t,ht,hq⟩:=Y A outer s H vs Q E (hr.deeper _) d;have I:Inv (bh CX P w K mg base N a scope f cdv A outer s H E) [] (start N vs) H C:=wQ S hr.hd c M r x;refine Bb (ht [] C (start N vs) H _ I hq) (fun L s' hs=>?_) fun e s' hs=>hs;have fin:∀{g:St}{H':Hp}{v:V}{u:Value},Inv (bh CX P w K mg base N a scope f cdv A outer s H E) [] g H' s'->RelV v u->Q v H'->CE outer P w H s Q u s':=
  fun{g H' v u} J h q=>⟨v,H',J.os,J.bare,J.base,J.hok,h,q⟩
 cases L with
 |ret u=>
  obtain⟨v,g,H',J,h,q⟩:=hs;exact fin J h q
 |next=>
  obtain⟨g,H',J,q⟩:=hs;exact fin (v:=V.non) (u:=Value.none) J rfl q
 |brk=>
  obtain⟨_,_,_,q⟩:=hs;exact False.elim q
 |cont=>
  obtain⟨_,_,_,q⟩:=hs;exact False.elim q
section
variable{X:Cx}{x:Str}{p pos:Pos}{e:Expr}{es:List Expr}{t:TA}{id T:String}{r:List V->Hp->VK->Prop}
def gb(r:List V->Hp->VK->Prop)(t:TA):TE:=fun σ H Q=>t σ H fun vs H1=>r vs H1 Q
def zm(hc:dg X (.builtin id) r)(f:Gl X x)(hm:X.mg x=none)(g:Bh x=some (.builtin id))(i:PA X (e::es) t)(j:x≠"__name__":=by decide)(l:(x==("__debug__":Str))=false:=by decide)
  (he:starEach (e::es) X.env=(false,eval e X.env)::starEach es X.env:=by rfl) (a:(backTo pos (starEach es X.env)).any (·.1)=false:=by rfl):PE X (.Call (.Name x p) (e::es) [] pos) (gb r t):=by
 intro aa s σ H Q I h;refine wpAny_Call_Name_kw (jg I f hm g ?_ j l);exact PyProof.Rows.callWith_builtin1 (bd (i pos aa s σ H _ I h) fun us c ⟨vs,H1,o,d,q1⟩=>hc aa c σ H1 vs us Q o d q1) he a
def zw(hc:dg X (.type T) r)(f:Gl X x)(hm:X.mg x=none)(g:Bh x=some (.type T))(i:PA X (e::es) t)(j:x≠"__name__":=by decide)(l:(x==("__debug__":Str))=false:=by decide)
  (he:starEach (e::es) X.env=(false,eval e X.env)::starEach es X.env:=by rfl) (a:(backTo pos (starEach es X.env)).any (·.1)=false:=by rfl):PE X (.Call (.Name x p) (e::es) [] pos) (gb r t):=by
 intro aa s σ H Q I h;refine wpAny_Call_Name_kw (jg I f hm g ?_ j l);exact PyProof.Rows.callWith_type1 (bd (i pos aa s σ H _ I h) fun us c ⟨vs,H1,o,d,q1⟩=>hc aa c σ H1 vs us Q o d q1) he a
end
end L2
namespace HT
open PySem PyProof.Rows
def lexLt:List Int->List Int->Bool
 |[],[]=>false
 |[],_::_=>true
 |_::_,[]=>false
 |x::xs,y::ys=>if x=y then lexLt xs ys else decide (x<y)
def zN(x y:Int)(xs ys:List Int):lexLt (x::xs) (y::ys)=if x=y then lexLt xs ys else decide (x<y):=rfl
def wT:lexLt [] []=false:=rfl
def zV(y:Int)(ys:List Int):lexLt [] (y::ys)=true:=rfl
def wU(x:Int)(xs:List Int):lexLt (x::xs) []=false:=rfl
def Dm(A:Around)(s:Shared)(a:Int)(t:Tok)(c:Int)(u:Tok):∃e,SeqAt.EqAt A s (.int a t) (.int c u) e/\(e=true↔a=c):=
 ⟨(a==c),SeqAt.EqAt.int_int a t c u,by simp⟩
def Dn(A:Around)(s:Shared)(a:Int)(t:Tok)(c:Int)(u:Tok)(prog:Program)(w:World)(E:Ω)(Q:Ω)(h:Q (.bool (decide (a<c))) s):wpAny (model prog w) A (richCompare .Lt (.int a t) (.int c u)) Q E s:=
 (PyProof.Rows.lt_int h:wpAny (model prog w) A (compareOp .Lt (.int a t) (.int c u)) Q E s)
section
open PySem.SeqAt
open PySem.AutoSeq1 (wpAny_loadPart')
open PySem.MeetsSeq PySem.MeetsSeq2 PySem.MeetsSeq3
def Do(l b:Addr)(r v:Array Value)(n n2:Nat)(dd J:Option Addr)(L M:Array (Option Value))(ns C:List Int)(hi:IntsAre r.toList ns)(G:IntsAre v.toList C):Meets (Builtin.«tuple.__lt__» ⟨[.ref l,.ref b],[]⟩)
   (fun _ R s=>s.heap.get? l=some {cls:=.type "tuple",dict:=dd,data:=.seq r n,slots:=L}/\s.heap.get? b=some {cls:=.type "tuple",dict:=J,data:=.seq v n2,slots:=M}/\
    R (.ok (.ret (.bool (lexLt ns C)))) s):=
 .of_wp fun prog w A R s h=>by
  obtain⟨hp,g,d,tk,os⟩:=s;obtain⟨H,hb,h⟩:=h;have f2:=AutoSeq1.sub_tuple_tuple;have P:r.size=ns.length:=by rw[<-hi.length];simp
  have z2:v.size=C.length:=by rw[<-G.length];simp
  wp_walk using wpAny_loadPart' H,wpAny_loadPart' hb,wpAny_forIn_list _ (fun rest b s'=>b.1=none/\s'=⟨hp,g,d,tk,os⟩/\∃(vs ws:List Value)(o p:List Int),rest=vs.zip ws/\
   IntsAre vs o/\IntsAre ws p/\o.length+v.size=p.length+r.size/\R (.ok (.ret (.bool (lexLt o p)))) ⟨hp,g,d,tk,os⟩) _
  case turn=>
   rintro⟨y,x⟩ rest b s' ⟨j,rfl,vs,ws,o,p,i,D,z,f,hR⟩;cases D with
   |nil=>rw[List.zip_nil_left] at i;cases i
   |cons a t hvi'=>
    cases z with
    |nil=>rw[List.zip_nil_right] at i;cases i
    |cons c u hwi'=>
     rw[List.zip_cons_cons] at i;injection i with hyx hrest
     injection hyx with hy hx
     subst hy hx;rw[zN] at hR;simp only[Ap] at f;obtain⟨e,he,E⟩:=Dm A.in1 ⟨hp,g,d,tk,os⟩ a t c u;refine Aa (he prog w _ _ ?_);cases e with
     |true=>
      rw[if_pos (E.mp rfl)] at hR
      wp_walk
      exact⟨rfl,rfl,_,_,_,_,hrest,hvi',hwi',ω,hR⟩
     |false=>
      rw[if_neg (fun q=>absurd (E.mpr q) Ax)] at hR;have I:=Dn A.in1 ⟨hp,g,d,tk,os⟩ a t c u prog w
      wp_walk using I
      exact⟨_,rfl,by simpa using hR⟩
  case fin=>
   rintro⟨N,O⟩ s' ⟨j,rfl,vs,ws,o,p,i,D,z,f,hR⟩;simp only at j;subst j;have F:lexLt o p=decide (r.size<v.size):=by
    cases D with
    |nil=>
     cases z with
     |nil=>
      simp only[List.length_nil] at f;rw[wT];exact(decide_eq_false ω).symm
     |cons c u hw=>
      simp only[List.length_nil,Ap] at f;rw[zV];exact(decide_eq_true ω).symm
    |cons a t F=>
     cases z with
     |nil=>
      simp only[List.length_nil,Ap] at f;rw[wU];exact(decide_eq_false ω).symm
     |cons c u hw=>
      rw[List.zip_cons_cons] at i;cases i
   rw[F] at hR
   wp_walk
   exact⟨_,rfl,by simpa[Builtin.Tuple.tupleCompareSizes] using hR⟩
  case h=>
   exact⟨rfl,rfl,r.toList,v.toList,ns,C,rfl,hi,G,ω,h⟩
end
section
variable{prog:Program}{w:World}{A:Around}{E:Ω}{s:Shared}
def Dp{l b:Addr}{c d:Array Value}{ns a:List Int}{Q:Ω}(q:IsTup s.heap l c)(hb:IsTup s.heap b d)(hi:IntsAre c.toList ns)(r:IntsAre d.toList a)(hu:A.units<cLine)(h:Q (.bool (lexLt ns a)) s):wpAny (model prog w) A (compareOp .Lt (.ref l) (.ref b)) Q E s:=by
 obtain⟨⟨cls,dd,data,j⟩,e,hc,n,hd⟩:=id q;obtain⟨⟨u,o,data2,p⟩,f,g,n2,i⟩:=id hb;simp only at hc hd g i;subst hc hd g i;exact richCompare_meets_room (op:=.Lt) ⟨_,e,rfl⟩ ⟨_,f,rfl⟩ PySem.F.slot_tuple_lt PySem.F.entry_tuple_lt (PySem.F.args_tuple_lt_2 _ _) (Do l b c d n n2 dd o j p ns a hi r)
  ⟨e,f,show Value.bool (lexLt ns a)≠Value.notImplemented/\Q (.bool (lexLt ns a)) s from⟨(fun x=>nomatch x),h⟩⟩ hu
def Dq{t b:Addr}{vs ws:List Value}{Q:Ω}(ht:IsTup s.heap t vs.toArray)(hb:IsTup s.heap b ws.toArray)(j:vs≠[])(h1:ws=[]->Q (.ref t) s)(h2:ws≠[]->Q (.ref s⁻¹) {s with heap:=s.heap.push {cls:=.type "tuple",data:=.seq (vs++ws).toArray}})(hsz:vs.length+ws.length<=sizeLine):wpAny (model prog w) A (binaryOp .Add (.ref t) (.ref b)) Q E s:=by
 obtain⟨⟨cls,dd,data,d⟩,a,hc,n,hd⟩:=id ht;obtain⟨⟨l,f,data2,g⟩,c,h,n2,i⟩:=id hb;simp only at hc hd h i;subst hc hd h i;have e:vs.toArray++ws.toArray=(vs++ws).toArray:=by simp
 by_cases hw:ws=[]
 ·exact concat_meets ⟨_,a,rfl⟩ ⟨_,c,rfl⟩ noFill_tuple_add seq_tuple_add PySem.F.slot_tuple_add PySem.F.entry_tuple_add (PySem.F.args_tuple_add_2 _ _)
   (tuple_addW1 t b vs.toArray ws.toArray n n2 dd f d g (by simpa using j) (by simp[hw])) ⟨a,c,h1 hw⟩
 ·refine concat_meets ⟨_,a,rfl⟩ ⟨_,c,rfl⟩ noFill_tuple_add seq_tuple_add PySem.F.slot_tuple_add PySem.F.entry_tuple_add (PySem.F.args_tuple_add_2 _ _)
   (tuple_addW2 t b vs.toArray ws.toArray n n2 dd f d g (by simpa using j) (by simpa using hw) (by rw[Am,Am];exact hsz)) ⟨a,c,?_⟩
  rw[e];exact h2 hw
def sIx(n d:Nat):Option Int->Nat
 |none=>d
 |some v=>if v<0 then(v+(n:Int)).toNat else min v.toNat n
def mK(n d:Nat):sIx n d none=d:=rfl
def kx(n d k:Nat):sIx n d (some (k:Int))=min k n:=by
 show(if(k:Int)<0 then((k:Int)+(n:Int)).toNat else min (k:Int).toNat n)=min k n;rw[if_neg ω,Int.toNat_natCast]
def Dr(n d:Nat)(hd:d<=n)(o:Option Int):sIx n d o<=n:=by
 cases o with
 |none=>exact hd
 |some v=>
  show(if v<0 then(v+(n:Int)).toNat else min v.toNat n)<=n
  by_cases a:v<0
  ·rw[if_pos a];omega
  ·rw[if_neg a];exact Nat.min_le_right _ _
def wV(v:Int)(n d:Nat):(if v<0 then max (v+(n:Int)) 0 else min v (n:Int))=((sIx n d (some v):Nat):Int):=by
 show(if v<0 then max (v+(n:Int)) 0 else min v (n:Int))=(((if v<0 then(v+(n:Int)).toNat else min v.toNat n):Nat):Int)
 by_cases a:v<0
 ·simp only[if_pos a];omega
 ·simp only[if_neg a];omega
def Ds(lo hi:Option Int)(n:Nat):Builtin.Slice.sliceAdjust lo hi 1 (n:Int)=(((sIx n 0 lo:Nat):Int),((sIx n n hi:Nat):Int)):=by
 have h1:¬((1:Int)<0):=ω
 unfold Builtin.Slice.sliceAdjust;simp only[h1,if_false];refine Prod.ext ?_ ?_
 ·cases lo with
  |none=>rfl
  |some v=>exact wV v n 0
 ·cases hi with
  |none=>rfl
  |some v=>exact wV v n n
def Dt(i j:Nat):Builtin.Slice.slicePlaces (i:Int) (j:Int) 1=j-i:=by
 unfold Builtin.Slice.slicePlaces;have h1:(1:Int)>0:=ω
 simp only[h1,if_true,Int.ediv_one];split<;>omega
def wW{v:Value}{o:Option Int}{Q:Option Int->Shared->Prop}(p:IsPart v o)(h:Q o s):wpAny (model prog w) A (Builtin.Slice.slicePartIndex v) Q E s:=by
 cases p with
 |none=>exact slicePart_none h
 |int i t=>exact slicePart_int h
def wX{f:Addr}{d e:Value}{lo hi:Option Int}{n:Nat}{Q:Int×Int×Nat->Shared->Prop}(hs:s.heap.IsSliceOf f d e .none)(g:IsPart d lo)(i:IsPart e hi)(h:Q (((sIx n 0 lo:Nat):Int),1,sIx n n hi-sIx n 0 lo) s):wpAny (model prog w) A (Builtin.Slice.sliceApplied (.ref f) (pure (n:Int))) Q E s:=by
 obtain⟨os,a,j,c⟩:=id hs;unfold Builtin.Slice.sliceApplied Builtin.Slice.sliceFields;refine Aa (Aa (AR a c (x:=d) rfl (Aa (AR a c (x:=e) rfl (Aa (AR a c (x:=.none) rfl (Ad ?_)))))));refine Aa (slicePart_none ?_);show wpAny _ _ (if((1:Int)==0)=true then _ else _) _ _ s;rw[if_neg ξ];refine Aa (wW g (Aa (wW i (Aa (Ad ?_)))));show wpAny _ _ (match Builtin.Slice.sliceAdjust lo hi 1 (n:Int) with|(lo,hi)=>pure (lo,(1:Int),Builtin.Slice.slicePlaces lo hi 1)) _ _ s;rw[Ds lo hi n];show wpAny _ _ (pure (((sIx n 0 lo:Nat):Int),(1:Int),Builtin.Slice.slicePlaces ((sIx n 0 lo:Nat):Int) ((sIx n n hi:Nat):Int) 1)) _ _ s;rw[Dt];exact Ad h
def Du(xs:Array Value)(i k:Nat):((AQ k).filterMap fun(m:Nat)=>xs[((i:Int)+(m:Int)*1).toNat]?).toArray=((xs.toList.drop i).take k).toArray:=by
 have e:(fun(m:Nat)=>xs[((i:Int)+(m:Int)*1).toNat]?)=fun m=>xs[i+m]?:=by
  funext m
  have:((i:Int)+(m:Int)*1).toNat=i+m:=ω
  rw[this]
 rw[e];have:=pick_run xs i k;rw[List.filterMap_map] at this;have e2:((fun x=>xs[x]?) ∘ fun x=>i+x)=fun m=>xs[i+m]?:=rfl;rw[e2] at this;rw[this]
def Dv{t d:Addr}{a:Array Value}{e f:Value}{lo hi:Option Int}{Q:Ω}(ht:IsTup s.heap t a)(hs:s.heap.IsSliceOf d e f .none)(o:IsPart e lo)(p:IsPart f hi)(hw:¬(sIx a.size 0 lo=0/\sIx a.size a.size hi=a.size))(h:Q (.ref s⁻¹) {s with heap:=s.heap.push {cls:=.type "tuple",data:=.seq ((a.toList.drop (sIx a.size 0 lo)).take (sIx a.size a.size hi-sIx a.size 0 lo)).toArray}})(hsz:a.size<=sizeLine):wpAny (model prog w) A (getItem (.ref t) (.ref d)) Q E s:=by
 have c:sizeOk (.seq ((a.toList.drop (sIx a.size 0 lo)).take (sIx a.size a.size hi-sIx a.size 0 lo)).toArray):=by
  show((a.toList.drop (sIx a.size 0 lo)).take (sIx a.size a.size hi-sIx a.size 0 lo)).toArray.size<=sizeLine;rw[Am,AI,List.length_drop,Af];omega
 have u:sIx a.size a.size hi<=a.size:=Dr _ _ (Ag _) hi;obtain⟨os,g,i,r⟩:=id hs;have j:s.TypeIs (.ref d) "slice":=⟨os,g,i⟩;unfold getItem
 try with_reducible refine A0 ?_
 first|refine Aa (Ad ?_)|skip
 refine Aa (wpAny_sequenceKey ht.typeIs ξ ?_);refine Aa (wpAny_callSpecial?_slot (name:=Str.ofString "__getitem__") ht.typeIs PyProof.Rows.slot_tuple_getitem
  (Ba PyProof.Rows.slot_tuple_getitem ht.typeIs entry_tuple_getitem ?_ (args_tuple_getitem _ _)))
 show wpAny _ _ (Builtin.Tuple.tupleItemsOf (.ref t) >>= _) _ _ s;refine Aa (tupleItemsOf_ ht ?_);refine Aa (wpAny_typeOf j ?_);rw[if_pos ξ];refine Aa (wX hs o p ?_);have l:¬((((sIx a.size 0 lo:Nat):Int)==0&&(1:Int)==1&&(sIx a.size a.size hi-sIx a.size 0 lo)==a.size)=true):=by
  intro q;rw[AE,AE] at q;have q1:((sIx a.size 0 lo:Nat):Int)=0:=eq_of_beq q.1.1;have v:sIx a.size a.size hi-sIx a.size 0 lo=a.size:=eq_of_beq q.2;exact hw ⟨ω,ω⟩
 show wpAny _ _ (if(((sIx a.size 0 lo:Nat):Int)==0&&(1:Int)==1&&(sIx a.size a.size hi-sIx a.size 0 lo)==a.size)=true then _ else _) _ _ s;rw[if_neg l,Du]
 first
  |exact Aa (m:=Builtin.Tuple.tupleExact _) (AS (Ad ⟨_,rfl,Ad h⟩) c)
  |exact Aa (m:=Builtin.Tuple.tupleExact _) (AS (Aa (Ad (Ad ⟨_,rfl,Ad h⟩))) c)
  |exact Aa (Aa (m:=Builtin.Tuple.tupleExact _) (AS (Ad (Ad ⟨_,rfl,Ad h⟩)) c))
  |exact Aa (Aa (m:=Builtin.Tuple.tupleExact _) (AS (Ad ⟨_,rfl,Ad h⟩) c))
end
end HT
namespace L2
open PySem PySem.Spec PyProof.Rows
abbrev TO:=St->Hp->(Option Int->Hp->Prop)->Prop
def PO(X:Cx)(e:Option Expr)(t:TO):Prop:=
 ∀(aa:Ψ)(s:Shared)(σ:St)(H:Hp)(Q:Option Int->Hp->Prop),Inv X aa σ H s->t σ H Q->
  wpAny (model X.prog X.w) X.A (evalPart e X.env) (fun u s'=>∃o H',Inv X aa σ H' s'/\IsPart u o/\Q o H') X.xe s
def pK:TO:=fun _ H Q=>Q none H
def p0(t:TE):TO:=fun σ H Q=>t σ H fun x H1=>∃i,x=.int i/\Q (some i) H1
def intsAre_of{ns:List Int}:∀{us:List Value},Vals (ns.map V.int) us->IntsAre us ns:=by
 induction ns with
 |nil=>intro us r;rw[List.map_nil] at r;cases r;exact .nil
 |cons n ns ih=>
  intro us r;rw[AT] at r;cases r with
  |cons r1 r2=>
   obtain⟨t,e⟩:=r1;subst e;exact .cons n t (ih r2)
section
variable{X:Cx}{e:Expr}{te:TE}{lo hi:Option Expr}{tl th:TO}{pos p2:Pos}
def gc:PO X none pK:=by
 intro aa s σ H Q I h;rw[evalPart_none];exact Ad ⟨none,H,I,.none,h⟩
def gd(h:PE X e te):PO X (some e) (p0 te):=by
 intro aa s σ H Q I hw;rw[evalPart_some];refine bd (h aa s σ H _ I hw) fun u d ⟨x,H1,c,a,q1⟩=>?_;obtain⟨i,rfl,q⟩:=q1;obtain⟨t,rfl⟩:=a;exact⟨some i,H1,c,.int i t,q⟩
def ky(X:Cx)(r:V->Option Int->Option Int->Hp->VK->Prop):Prop:=
 ∀(aa:Ψ)(s:Shared)(σ:St)(H:Hp)(x:V)(v a c:Value)(lo hi:Option Int)(d:Addr)(Q:VK),Inv X aa σ H s->RelV x v->s.heap.IsSliceOf d a c .none->IsPart a lo->IsPart c hi->r x lo hi H Q->
  ∃T id,typeLookup (.type T) "__getitem__"=pure (some (.builtin id))/\s.TypeIs v T/\wpAny (model X.prog X.w) X.A (getItem v (.ref d)) (EP X aa σ Q) X.xe s
def p5(r:V->Option Int->Option Int->Hp->VK->Prop)(te:TE)(tl th:TO):TE:=fun σ H Q=>te σ H fun x H1=>tl σ H1 fun l H2=>th σ H2 fun u a=>r x l u a Q
def ge{r:V->Option Int->Option Int->Hp->VK->Prop}(hr:ky X r)(he:PE X e te)(E:PO X lo tl)(hu:PO X hi th):PE X (.Subscript e (.Slice lo hi none p2) pos) (p5 r te tl th):=by
 intro aa s σ H Q I h;refine Subscript_ (bd (he aa s σ H _ I h) fun v g ⟨x,H1,F,i,q1⟩=>?_);refine wpAny_Slice (bd (E aa g σ H1 _ F q1) fun c j ⟨l,H2,G,o,p⟩=>bd (hu aa j σ H2 _ G p) fun d a ⟨u,f,I3,y,z⟩=>?_);rw[evalPart_none];refine Ad ?_;have J:Inv X aa σ f {a with heap:=a.heap.push {cls:=.type "slice",data:=.fields #[c,d,.none]}}:=I3.kept (t':=a.toks) fun b L q=>Ac _ q;obtain⟨T,id,C,ht,D⟩:=hr aa {a with heap:=a.heap.push {cls:=.type "slice",data:=.fields #[c,d,.none]}} σ f x v c d l u a⁻¹ Q J i (Heap.IsSliceOf.new ..) o y z;show wpAny (model X.prog X.w) X.A (subscriptTail e (.Slice lo hi none p2) v (.ref a⁻¹)) (EP X aa σ Q) X.xe {a with heap:=a.heap.push {cls:=.type "slice",data:=.fields #[c,d,.none]}};exact tail_any (ops:=[.ref a⁻¹,v]) ht C D (by with_unfolding_all rfl)
def b'(xs:List V)(lo hi:Option Int):List V:=(xs.drop (HT.sIx xs.length 0 lo)).take (HT.sIx xs.length xs.length hi-HT.sIx xs.length 0 lo)
def wY(xs:List V)(lo hi:Option Int):(b' xs lo hi).length<=xs.length:=by
 unfold b';rw[AI,List.length_drop];omega
def p6(K:Ae):V->Option Int->Option Int->Hp->VK->Prop:=fun x lo hi H Q=>∃a xs,x=.ref a/\SqT K H a xs/\
 ¬(HT.sIx xs.length 0 lo=0/\HT.sIx xs.length xs.length hi=xs.length)/\∀p,H p=none->Q (.ref p) (upd H p (.tup (b' xs lo hi)))
def wZ:ky X (p6 X.K):=by
 intro aa s σ H x v j l lo hi p Q I e hs f g h;obtain⟨a,xs,rfl,hx,hw,q⟩:=h;cases e;obtain⟨i,r,ht,d⟩:=I.tuple hx;have c:i.toArray.size=xs.length:=by rw[Am];exact r.length.symm
 refine⟨"tuple",_,PyProof.Rows.slot_tuple_getitem.lookup,ht.typeIs,?_⟩;refine HT.Dv ht hs f g (by rw[c];exact hw) ?_ (by rw[c];exact d);rw[c];refine⟨.ref s⁻¹,_,I.laid (t':=s.toks) (o:=.tup (b' xs lo hi)) (fun b u q=>Ac _ q) (Ag _) ?_,rfl,q _ (I.hok.fresh (Ag _))⟩;exact⟨AA (wY xs lo hi) d,_,(r.drop (HT.sIx xs.length 0 lo)).take (HT.sIx xs.length xs.length hi-HT.sIx xs.length 0 lo),IsTup.new _ _⟩
def Vals.nil_iff{xs:List V}{us:List Value}(r:Vals xs us):us=[]↔xs=[]:=by
 cases r with
 |nil=>simp
 |cons _ _=>simp
end
def gB(n:Nat)(i:Int):Option Nat:=if 0<=i then(if i<n then some i.toNat else none) else if -(n:Int)<=i then some (i+n).toNat else none
def atI{a:Type}(xs:List a)(i:Int):Option a:=(gB xs.length i).bind fun j=>xs[j]?
def w4{n:Nat}{i:Int}{j:Nat}(h:gB n i=some j):seqIndex? i n=some j/\j<n/\-(n:Int)<=i/\i<n:=by
 unfold gB at h
 by_cases a:0<=i
 ·rw[if_pos a] at h
  by_cases h1:i<n
  ·rw[if_pos h1] at h
   have e:i.toNat=j:=As h;exact⟨by rw[seqIndex_of a h1,e],ω,ω,h1⟩
  ·rw[if_neg h1] at h;cases h
 ·rw[if_neg a] at h
  by_cases h1:-(n:Int)<=i
  ·rw[if_pos h1] at h
   have e:(i+n).toNat=j:=As h;exact⟨by rw[seqIndex_neg ω h1,e],ω,h1,ω⟩
  ·rw[if_neg h1] at h;cases h
def qd{a:Type}{xs:List a}{i:Int}{v:a}(h:atI xs i=some v):∃j,seqIndex? i xs.length=some j/\xs[j]?=some v/\j<xs.length/\-(xs.length:Int)<=i/\i<xs.length:=by
 unfold atI at h;cases e:gB xs.length i with
 |none=>rw[e] at h;cases h
 |some j=>
  rw[e] at h;obtain⟨h1,h2,c,d⟩:=w4 e;exact⟨j,h1,h,h2,c,d⟩
def eN{a:Type}{xs:List a}{j:Nat}{v:a}(h:xs[j]?=some v):atI xs (j:Int)=some v:=by
 have c:j<xs.length:=(List.getElem?_eq_some_iff.mp h).1;have e:gB xs.length (j:Int)=some j:=by
  unfold gB;rw[if_pos ω,if_pos ω];simp
 unfold atI;rw[e];exact h
def Dw{a:Type}(xs:List a)(v:a):atI (xs++[v]) (-1)=some v:=by
 have c:(xs++[v]).length=xs.length+1:=by simp
 have e:gB (xs++[v]).length (-1)=some xs.length:=by
  unfold gB;rw[c,if_neg ξ,if_pos ω]
  congr 1
  omega
 unfold atI;rw[e];show(xs++[v])[xs.length]?=some v;simp
def Dx(b:Expr):Prop:=∀o i,subscripted b false o i=operate [o,i] (getItem o i)
def mL(X:Cx)(r:R2):Prop:=
 ∀(bf slice:Expr)(aa:Ψ)(s:Shared)(σ:St)(H:Hp)(x y:V)(v u:Value)(Q:VK),Inv X aa σ H s->RelV x v->RelV y u->r x y H Q->
  subscripted slice false v u=operate [v,u] (getItem v u)->wpAny (model X.prog X.w) X.A (subscriptTail bf slice v u) (EP X aa σ Q) X.xe s
def qh(X:Cx)(id:String)(r:V->List V->Hp->VK->Prop):Prop:=
 ∀(aa:Ψ)(s:Shared)(σ:St)(H:Hp)(x:V)(xs:List V)(v:Value)(us:List Value)(Q:VK),Inv X aa σ H s->RelV x v->Vals xs us->r x xs H Q->
  wpAny (model X.prog X.w) X.A (call (.builtin id) (v::us)) (EP X aa σ Q) X.xe s
section
variable{X:Cx}{a b:Expr}{ta tb:TE}{pos:Pos}
def cQ{r:R2}(hr:mL X r)(f:PE X a ta)(hb:PE X b tb)(hs:Dx b):PE X (.Subscript a b pos) (cV r ta tb):=by
 intro aa s σ H Q I h;exact Subscript_ (iz f hb I h fun v u c x y H2 g d e q=>hr a b aa c σ H2 x y v u Q g d e q (hs _ _))
def qk(K:Ae):R2:=fun x y H Q=>∃p xs i v,x=.ref p/\y=.int i/\SqL K H p xs/\atI xs i=some v/\Q v H
def iG(K:Ae):R2:=fun x y H Q=>∃p xs i v,x=.ref p/\y=.int i/\SqT K H p xs/\atI xs i=some v/\Q v H
def qp:R2:=fun x y H Q=>∃z i c,x=.str z/\y=.int i/\z.length<=sizeLine/\atI z.cps.toList i=some c/\Q (.str ⟨#[c]⟩) H
def zX:mL X (qk X.K):=by
 intro bf slice aa s σ H x y v u Q I f g h hs;obtain⟨p,xs,i,z,rfl,rfl,hq,he,q⟩:=h;cases f;obtain⟨t,rfl⟩:=g;obtain⟨l,r,a,E⟩:=I.list hq;obtain⟨j,h1,h2,F,o,A⟩:=qd he;obtain⟨w,d,C⟩:=r.get h2;have D:=r.length;have G:=cu;have fin:EP X aa σ Q w s:=⟨z,H,I,C,q⟩
 by_cases e:0<=i
 ·have c:i.toNat=j:=by
   rw[seqIndex_of e A] at h1;exact As h1
  exact item_listR a.isList e ω (by rw[c];simpa using d) fin hs
 ·have c:(i+(l.toArray.size:Int)).toNat=j:=by
   rw[seqIndex_neg ω o] at h1;rw[Am,<-D];exact As h1
  exact subscriptTail_builtinR (x:=w) a.isList.typeIs slot_list_getitem.lookup
   (wpAny_getItem_list_neg (Q:=fun r s'=>r=w/\EP X aa σ Q r s') a.isList ω (by rw[Am]<;>omega) ω (by rw[c];simpa using d) ⟨rfl,fin⟩) hs
def qr:mL X (iG X.K):=by
 intro bf slice aa s σ H x y v u Q I c d h hs;obtain⟨p,xs,i,z,rfl,rfl,hq,he,q⟩:=h;cases c;obtain⟨t,rfl⟩:=d;obtain⟨l,r,a,o⟩:=I.tuple hq;obtain⟨j,h1,h2,A,C,D⟩:=qd he;obtain⟨w,e,f⟩:=r.get h2;have g:=r.length;have E:=cu;have fin:EP X aa σ Q w s:=⟨z,H,I,f,q⟩;exact subscriptTail_builtinR (x:=w) a.typeIs slot_tuple_getitem.lookup
  (getItem_tuple (j:=j) (Q:=fun r s'=>r=w/\EP X aa σ Q r s') a ω ω (by rw[Am,<-g];exact h1) (by simpa using e) ⟨rfl,fin⟩) hs
def qu:mL X qp:=by
 intro bf slice aa s σ H x y v u Q I a d h hs;obtain⟨z,i,c,rfl,rfl,l,he,q⟩:=h;obtain⟨t,rfl⟩:=a;obtain⟨t',rfl⟩:=d;obtain⟨j,h1,h2,o,e,f⟩:=qd he;have g:z.cps.toList.length=z.length:=by simp[Str.length]
 rw[g] at h1 e f;have p:=cu;exact tail_any (typeIs_str s z t) slot_str_getitem.lookup (getItem_str (c:=c) (by
  have e1:decide (i < -(2 ^ 63:Int))=false:=decide_eq_false ω;have e2:decide (i ≥ 2 ^ 63)=false:=decide_eq_false ω;rw[e1,e2,Bool.or_false]) (by rw[h1];simpa using h2) ⟨.str ⟨#[c]⟩,H,I.tok _,⟨_,rfl⟩,q⟩) hs
def Dy(a:List Value)(n j:Nat)(u:Value):AJ (·.setIfInBounds j u) {cls:=.type "list",data:=.seq a.toArray n}={cls:=.type "list",data:=.seq (a.set j u).toArray n}:=by
 simp[AJ]
def Inv.lst{aa:Ψ}{σ:St}{H:Hp}{s:Shared}{p:Addr}{xs:List V}(I:Inv X aa σ H s)(h:H p=some (.lst xs)):∃(a:List Value)(n:Nat),Vals xs a/\s.heap.get? p=some {cls:=.type "list",data:=.seq a.toArray n}/\xs.length<=sizeLine:=by
 obtain⟨z,a,n,r,e⟩:=I.hok p _ h;exact⟨a,n,r,e,z⟩
def Inv.lstUpd{aa:Ψ}{σ:St}{H:Hp}{s:Shared}{p:Addr}{xs ys:List V}{c its':List Value}{n a:Nat}{f:Obj->Obj}(I:Inv X aa σ H s)(h:H p=some (.lst xs))(d:s.heap.get? p=some {cls:=.type "list",data:=.seq c.toArray n})(hf:f {cls:=.type "list",data:=.seq c.toArray n}={cls:=.type "list",data:=.seq its'.toArray a})(r:Vals ys its')(g:ys.length<=sizeLine)(t:Nat):Inv X aa σ (upd H p (.lst ys)) {s with heap:=s.heap.update p f,toks:=t}:=by
 have e:(s.heap.update p f).get? p=some {cls:=.type "list",data:=.seq its'.toArray a}:=by
  rw[Heap.get?_update_self f d (by rw[hf]<;>rfl),hf]
 refine I.write (x:=p) (e:=p) (by rw[h];trivial) (.inl rfl) (fun b u hb q=>(AM _ _ (Ne.symm hb)).trans q) ⟨_,e⟩ ?_;exact⟨g,its',a,r,e⟩
def Dz:V->V->V->Hp->(Hp->Prop)->Prop:=fun o i v H Q=>∃p xs k j,o=.ref p/\i=.int k/\H p=some (.lst xs)/\gB xs.length k=some j/\Q (upd H p (.lst (xs.set j v)))
def set_list:ka X Dz:=by
 intro aa s σ H o i v C iv u Q I w x y h;obtain⟨p,xs,k,j,rfl,rfl,hp,z,q⟩:=h;cases w;obtain⟨t,rfl⟩:=x;obtain⟨d,n,r,a,A⟩:=I.lst hp;obtain⟨h1,h2,e,f⟩:=w4 z;have c:=r.length;have D:=cu;have l:Inv X aa σ (upd H p (.lst (xs.set j v))) {s with heap:=s.heap.update p (AJ (·.setIfInBounds j u))}:=
  I.lstUpd hp a (Dy d n j u) (r.set y j) (by rw[List.length_set];exact A) s.toks
 by_cases g:0<=k
 ·have hk:k.toNat=j:=by
   rw[seqIndex_of g f] at h1;exact As h1
  exact PySem.W.ki_setAt a g ω (by rw[Am,<-c];exact f) (by rw[hk];exact⟨_,l,q⟩)
 ·have hk:(k+(d.toArray.size:Int)).toNat=j:=by
   rw[seqIndex_neg ω e] at h1;rw[Am,<-c];exact As h1
  exact PySem.W.ki_setBack a ω (by rw[Am,<-c];exact e) ω (by rw[hk];exact⟨_,l,q⟩)
def DA(lo hi:Option Int)(n:Nat):(sliceBounds lo hi none n).1=((HT.sIx n 0 lo:Nat):Int)/\(sliceBounds lo hi none n).2.1=((HT.sIx n n hi:Nat):Int)/\(sliceBounds lo hi none n).2.2=1:=by
 refine⟨?_,?_,rfl⟩
 ·cases lo with
  |none=>simp[sliceBounds,HT.sIx]
  |some i=>
   simp only[sliceBounds,HT.sIx,Option.getD_none,show(1:Int)>0 from ξ,if_true]
   by_cases h:i<0
   ·simp only[h,if_true]<;>omega
   ·simp only[h,if_false]<;>omega
 ·cases hi with
  |none=>simp[sliceBounds,HT.sIx]
  |some i=>
   simp only[sliceBounds,HT.sIx,Option.getD_none,show(1:Int)>0 from ξ,if_true]
   by_cases h:i<0
   ·simp only[h,if_true]<;>omega
   ·simp only[h,if_false]<;>omega
def DB(a:List Value)(lo hi:Option Int):slicePick a.toArray lo hi none=((a.drop (HT.sIx a.length 0 lo)).take (HT.sIx a.length a.length hi-HT.sIx a.length 0 lo)).toArray:=by
 obtain⟨h1,h2,c⟩:=DA lo hi a.toArray.size;unfold slicePick;rw[h1,h2,c];simp only[sliceRange_one,pick_run,Am]<;>rfl
def qw(K:Ae):V->Option Int->Option Int->Hp->VK->Prop:=fun x lo hi H Q=>∃a xs,x=.ref a/\SqL K H a xs/\∀p,H p=none->Q (.ref p) (upd H p (.lst (b' xs lo hi)))
def DC:ky X (qw X.K):=by
 intro aa s σ H x v i j lo hi l Q I d hs e f h;obtain⟨a,xs,rfl,hx,q⟩:=h;cases d;obtain⟨u,r,ht,g⟩:=I.list hx;have c:=r.length;refine⟨"list",_,slot_list_getitem.lookup,ht.isList.typeIs,?_⟩;refine wpAny_getItem_list_slice ht.isList hs e f .none (by simp) ?_ (by rw[Am]<;>omega);rw[DB,<-c];refine⟨.ref s⁻¹,_,I.laid (t':=s.toks) (o:=.lst (b' xs lo hi)) (fun b p q=>Ac _ q) (Ag _) ?_,rfl,q _ (I.hok.fresh (Ag _))⟩;exact⟨AA (wY xs lo hi) g,_,0,(r.drop (HT.sIx xs.length 0 lo)).take (HT.sIx xs.length xs.length hi-HT.sIx xs.length 0 lo),Av _ rfl⟩
def dL:V->Bool
 |.non=>true
 |.bl _=>true
 |.int _=>true
 |.str _=>true
 |_=>false
def ej:V->V->Bool
 |.non,.non=>true
 |.bl a,.bl b=>a==b
 |.bl a,.int b=>(if a then 1 else 0)==b
 |.int a,.bl b=>a==(if b then 1 else 0)
 |.int a,.int b=>a==b
 |.str a,.str b=>a==b
 |_,_=>false
def DD{A:Around}{s:Shared}{y x:V}{u v:Value}(d:RelV y u)(c:RelV x v)(e:dL y=true)(fx:dL x=true):SeqAt.EqAt A s u v (ej y x):=by
 cases y with
 |non=>
  cases d;cases x with
  |non=>cases c;exact SeqAt.EqAt.same _
  |bl b=>cases c;exact SeqAt.EqAt.none_bool b
  |int b=>obtain⟨t,rfl⟩:=c;exact SeqAt.EqAt.none_int b t
  |str b=>obtain⟨t,rfl⟩:=c;exact SeqAt.EqAt.none_str b t
  |_=>exact absurd (show false=true from fx) Ax
 |bl a=>
  cases d;cases x with
  |non=>cases c;exact SeqAt.EqAt.bool_none a
  |bl b=>cases c;exact SeqAt.EqAt.bool_bool a b
  |int b=>obtain⟨t,rfl⟩:=c;exact SeqAt.EqAt.bool_int a b t
  |str b=>obtain⟨t,rfl⟩:=c;exact SeqAt.EqAt.bool_str a b t
  |_=>exact absurd (show false=true from fx) Ax
 |int a=>
  obtain⟨t',rfl⟩:=d;cases x with
  |non=>cases c;exact SeqAt.EqAt.int_none a t'
  |bl b=>cases c;exact SeqAt.EqAt.int_bool a t' b
  |int b=>obtain⟨t,rfl⟩:=c;exact SeqAt.EqAt.int_int a t' b t
  |str b=>obtain⟨t,rfl⟩:=c;exact SeqAt.EqAt.int_str a t' b t
  |_=>exact absurd (show false=true from fx) Ax
 |str a=>
  obtain⟨t',rfl⟩:=d;cases x with
  |non=>cases c;exact SeqAt.EqAt.str_none a t'
  |bl b=>cases c;exact SeqAt.EqAt.str_bool a t' b
  |int b=>obtain⟨t,rfl⟩:=c;exact SeqAt.EqAt.str_int a t' b t
  |str b=>obtain⟨t,rfl⟩:=c;exact SeqAt.EqAt.str_str a t' b t
  |_=>exact absurd (show false=true from fx) Ax
 |_=>exact absurd (show false=true from e) Ax
def dO(x:V)(u:Value):Bool:=match u with
 |.none=>ej .non x
 |.bool b=>ej (.bl b) x
 |.int i _=>ej (.int i) x
 |.str z _=>ej (.str z) x
 |_=>false
def mM{x y:V}{u:Value}(r:RelV y u)(f:dL y=true):dO x u=ej y x:=by
 cases y with
 |non=>cases r;rfl
 |bl b=>cases r;rfl
 |int i=>obtain⟨t,rfl⟩:=r;rfl
 |str z=>obtain⟨t,rfl⟩:=r;rfl
 |_=>exact absurd (show false=true from f) Ax
def qy{x:V}:∀{xs:List V}{us:List Value},Vals xs us->xs.all dL=true->us.any (dO x)=xs.any fun y=>ej y x
 |_,_,.nil,_=>rfl
 |y::xs,u::us,.cons r t,f=>by
  rw[List.all_cons,AE] at f;rw[List.any_cons,List.any_cons,mM r f.1,qy t f.2]
def kA{A:Around}{s:Shared}{x:V}{v:Value}(a:RelV x v)(fx:dL x=true):∀{xs:List V}{us:List Value},Vals xs us->xs.all dL=true->∀u∈us,SeqAt.EqAt A s u v (dO x u)
 |_,_,.nil,_=>fun u hu=>by cases hu
 |y::xs,u::us,.cons r t,f=>fun c hu=>by
  rw[List.all_cons,AE] at f;rcases List.mem_cons.mp hu with rfl|hu
  ·rw[mM r f.1];exact DD r a f.1 fx
  ·exact kA a fx t f.2 c hu
def iH(x:V)(xs:List V):Bool:=xs.any fun y=>ej y x
def w5(K:Ae)(neg:Bool):R2:=fun x y H Q=>∃p xs,y=.ref p/\(SqL K H p xs\/SqT K H p xs)/\dL x=true/\xs.all dL=true/\Q (.bl (if neg then !iH x xs else iH x xs)) H
def w6:bZ X (compareOp .In) (w5 X.K false):=by
 intro aa s σ H x y v u Q I d e h;obtain⟨p,xs,rfl,hq,fx,fs,q⟩:=h;cases e;rcases hq with hq|hq
 ·obtain⟨a,r,c,f⟩:=I.list hq
  refine SeqAt.in_listAt (dO x) c.isList (fun w hw=>kA d fx r fs w (by simpa using hw)) ⟨.bl _,H,I,rfl,?_⟩;rw[show a.toArray.any (dO x)=a.any (dO x) by simp,qy r fs];exact q
 ·obtain⟨a,r,c,f⟩:=I.tuple hq
  refine SeqAt.in_tupleAt (dO x) c (fun w hw=>kA d fx r fs w (by simpa using hw)) ⟨.bl _,H,I,rfl,?_⟩;rw[show a.toArray.any (dO x)=a.any (dO x) by simp,qy r fs];exact q
def zl:dg X (.builtin "len") (fun xs H Q=>∃p ys,xs=[.ref p]/\(SqL X.K H p ys\/SqT X.K H p ys)/\Q (.int ys.length) H):=by
 intro aa s σ H xs us Q I r h;obtain⟨p,ys,rfl,hq,q⟩:=h;obtain⟨u,rfl,e⟩:=vals1 r;cases e;have i:=cu;rcases hq with hq|hq
 ·obtain⟨f,c,d,g⟩:=I.list hq
  have a:=c.length;exact Calls.call_len_list d.isList (by simp only[Am]<;>omega) ⟨.int ys.length,H,I.tok _,⟨s.toks+1,by rw[Am,a]⟩,q⟩
 ·obtain⟨f,c,d,g⟩:=I.tuple hq
  have a:=c.length;exact len_tuple d (by simp only[Am]<;>omega) ⟨.int ys.length,H,I.tok _,⟨s.toks+1,by rw[Am,a]⟩,q⟩
def kC:dg X (.builtin "len") (fun xs H Q=>∃z,xs=[.str z]/\z.length<=sizeLine/\Q (.int z.length) H):=by
 intro aa s σ H xs us Q I r h;obtain⟨z,rfl,a,q⟩:=h;obtain⟨u,rfl,t,rfl⟩:=vals1 r;have c:=cu;exact len_str ω ⟨.int z.length,H,I.tok _,⟨_,rfl⟩,q⟩
def kE:dg X (.type "tuple") (fun xs H Q=>∃p ys,xs=[.ref p]/\((SqL X.K H p ys/\∀l,H l=none->Q (.ref l) (upd H l (.tup ys)))\/(SqT X.K H p ys/\Q (.ref p) H))):=by
 intro aa s σ H xs us Q I r h;obtain⟨p,ys,rfl,h⟩:=h;obtain⟨u,rfl,j⟩:=vals1 r;cases j;rcases h with ⟨hq,q⟩|⟨hq,q⟩
 ·obtain⟨a,c,d,f⟩:=I.list hq
  have g:=c.length;refine call_tuple_list d.isList (fun h' i=>?_) (by simp only[Am]<;>omega);have I1:Inv X aa σ H {s with heap:=h'}:=I.kept (t':=s.toks) i;have v:Inv X aa σ (upd H h'.objs.size (.tup ys)) {s with heap:=h'.push {cls:=.type "tuple",data:=.seq a.toArray}}:=
   I1.laid (t':=s.toks) (fun b o e=>Ac _ e) (Ag _) (show zQ X.prog X.w _ _ _ (.tup ys) from⟨f,a,c,IsTup.new _ _⟩)
  exact⟨.ref h'.objs.size,_,v,rfl,q _ (I1.hok.fresh (Ag _))⟩
 ·obtain⟨a,c,d,f⟩:=I.tuple hq
  exact call_tuple_same d ⟨.ref p,H,I,rfl,q⟩
def w9(K:Ae)(T:String)(x:V)(H:Hp):Prop:=match x with
 |.str _=>T="str"
 |.int _=>T="int"
 |.ref p=>(T="list"/\∃xs,SqL K H p xs)\/(T="tuple"/\∃o,K.lookup p=some o/\o.cls=.type "tuple"/\o.dict=none) \/
   (T="dict"/\((∃kvs,H p=some (.dK kvs))\/∃kvs,H p=some (.dT kvs)))\/(T="set"/\∃S n,H p=some (.set S n))
 |_=>False
def DE{aa:Ψ}{σ:St}{H:Hp}{s:Shared}{T:String}{x:V}{v:Value}(I:Inv X aa σ H s)(r:RelV x v)(ty:w9 X.K T x H):s.TypeIs v T/\∀a,v=.ref a->∃d,s.heap.get? a=some d/\d.dict=none:=by
 cases x with
 |str z=>
  obtain⟨t,rfl⟩:=r;cases(show T="str" from ty);exact⟨typeIs_str s z t,fun _ e=>nomatch e⟩
 |int i=>
  obtain⟨t,rfl⟩:=r;cases(show T="int" from ty);exact⟨typeIs_int s i t,fun _ e=>nomatch e⟩
 |ref p=>
  cases r;rcases ty with ⟨rfl,xs,hq⟩|⟨rfl,o,hk,hc,hd⟩|⟨rfl,hk⟩|⟨rfl,S,n,hk⟩
  ·obtain⟨g,_,f,_⟩:=I.list hq
   refine⟨f.isList.typeIs,fun a e=>?_⟩;cases e;obtain⟨o,n,e,c,hd,_⟩:=f;exact⟨o,e,hd⟩
  ·refine⟨⟨o,I.kIn p o hk,hc⟩,fun a e=>?_⟩
   cases e;exact⟨o,I.kIn _ o hk,hd⟩
  ·have z:∃o,s.heap.get? p=some o/\o.ExactDict:=by
    rcases hk with ⟨kvs,hk⟩|⟨kvs,hk⟩
    ·obtain⟨_,_,_,_,o,_,_,e,ex,_⟩:=I.hok p _ hk
     exact⟨o,e,ex⟩
    ·obtain⟨_,_,_,_,o,_,_,e,ex,_⟩:=I.hok p _ hk
     exact⟨o,e,ex⟩
   obtain⟨o,e,ex⟩:=z;refine⟨⟨o,e,ex.1⟩,fun a e2=>?_⟩;cases e2;exact⟨o,e,ex.2.1⟩
  ·obtain⟨o,_,_,_,e,ex,_⟩:=I.hok p _ hk
   refine⟨⟨o,e,ex.1⟩,fun a e2=>?_⟩;cases e2;exact⟨o,e,ex.2.1⟩
 |_=>exact False.elim ty
def qD(K:Ae)(T:String)(r:V->List V->Hp->VK->Prop)(to:TE)(t:TA):TE:=fun σ H Q=>to σ H fun x H1=>w9 K T x H1/\t σ H1 fun xs H2=>r x xs H2 Q
variable{o e:Expr}{es:List Expr}{to:TE}{t:TA}{name:Str}{cx aK:Pos}{T id:String}{r:V->List V->Hp->VK->Prop}
def zW(q:PlainAttrs T)(slot:Slot T name id)(c:typeOf (.builtin id)=pure (.type "method_descriptor"))(hm:qh X id r)(u:PE X o to)(w:PA X (e::es) t)(y:attributeBase o name X.env (eval o X.env)=eval o X.env:=by rfl)
  (z:((backTo aK (starEach (e::es) X.env)).all (fun x=>!x.1)&&(backToKw aK (keywordEach [] X.env)).all (fun x=>x.1.isSome)
   && decide ((e::es).length+([]:List Keyword).length+(if([]:List Keyword).isEmpty then 0 else 1)<30))=true:=by rfl)
  (A:(cx.endLine==aK.line)=true:=by rfl) (hs:starEach (e::es) X.env=(false,eval e X.env)::starEach es X.env:=by rfl) (C:(backTo aK (starEach es X.env)).any (·.1)=false:=by rfl) :
  PE X (.Call (.Attribute o name cx) (e::es) [] aK) (qD X.K T r to t):=by
 intro aa s σ H Q I h;refine wpAny_Call_method_late y z A rfl (bd (u aa s σ H _ I h) fun v i ⟨x,H1,g,d,ty,q1⟩=>?_);obtain⟨h1,h2⟩:=DE g d ty;refine⟨T,id,q,slot,c,h1,h2,?_⟩;have f:=w aK aa i σ H1 _ g q1;rw[hs] at f ⊢;refine Calls.callWith_builtin (by show(false|| (backTo aK (starEach es X.env)).any (·.1))=false;rw[C]<;>rfl) (Calls.evalArgs_plain ?_);exact bd f fun us j ⟨vs,H2,D,l,p⟩=>hm aa j σ H2 x vs v us Q D d l p
end
def jp(X:Cx)(id:String)(r:V->List V->Hp->VK->Prop):Prop:=
 ∀(aa:Ψ)(s:Shared)(σ:St)(H:Hp)(x:V)(xs:List V)(v:Value)(us:List Value)(Q:VK),Inv X aa σ H s->RelV x v->Vals xs us->r x xs H Q->
  wpAny (model X.prog X.w) X.A (call (.builtin id) (v::us)) (EP X aa σ Q) X.xe s
def Vals.one{x:V}{us:List Value}(h:Vals [x] us):∃u,us=[u]/\RelV x u:=by
 cases h with|cons r t=>cases t;exact⟨_,rfl,r⟩
def Vals.two{x y:V}{us:List Value}(h:Vals [x,y] us):∃u v,us=[u,v]/\RelV x u/\RelV y v:=by
 cases h with|cons r t=>obtain⟨v,rfl,q⟩:=Vals.one t;exact⟨_,_,rfl,r,q⟩
def Vals.zero:∀{us:List Value},Vals [] us->us=[]
 |_,.nil=>rfl
def Vals.eraseIdx:∀{xs:List V}{us:List Value}(i:Nat),Vals xs us->Vals (xs.eraseIdx i) (us.eraseIdx i)
 |_,_,_,.nil=>.nil
 |_,_,0,.cons _ t=>t
 |_,_,i+1,.cons r t=>.cons r (Vals.eraseIdx i t)
def Vals.reverse{xs:List V}{us:List Value}(h:Vals xs us):Vals xs.reverse us.reverse:=by
 induction h with
 |nil=>exact .nil
 |cons r t ih=>rw[List.reverse_cons,List.reverse_cons];exact Vals.append ih (.cons r .nil)
def w_{a:Type}:∀(l:List a)(i:Nat),(l.eraseIdx i).length<=l.length
 |[],_=>Ag _
 |_::_,0=>Nat.le_succ _
 |_::r,i+1=>Nat.succ_le_succ (w_ r i)
section
variable{X:Cx}{aa:Ψ}{σ:St}{H:Hp}{s:Shared}{l b:Addr}{xs ys zs:List V}
def Inv.lset{a its':List Value}{n:Nat}{f:Array Value->Array Value}{t':Nat}(I:Inv X aa σ H s)(c:H l=some (.lst xs))(e:s.heap.get? l=some {cls:=.type "list",data:=.seq a.toArray n})(hf:f a.toArray=its'.toArray)(d:Vals ys its')(g:ys.length<=sizeLine):Inv X aa σ (upd H l (.lst ys)) {s with heap:=s.heap.update l (AJ f),toks:=t'}:=by
 have q:=PySem.IsL.update e f;rw[hf] at q;refine I.write (x:=l) (e:=l) (by rw[c];exact trivial) (.inl rfl) (fun h u hb hu=>(AM s.heap (AJ f) (Ne.symm hb)).trans hu) ⟨_,q⟩ ?_;exact⟨g,its',_,d,q⟩
def Inv.lnew{a:List Value}{t':Nat}(I:Inv X aa σ H s)(c:Vals ys a)(d:ys.length<=sizeLine):Inv X aa σ (upd H s⁻¹ (.lst ys)) {s with heap:=s.heap.push {cls:=.type "list",data:=.seq a.toArray},toks:=t'}:=
 I.laid (fun _ _ q=>Ac _ q) (Ag _) ⟨d,a,0,c,Av _ rfl⟩
def Inv.fresh(I:Inv X aa σ H s):H s⁻¹=none:=I.hok.fresh (Ag _)
def Inv.lstM(I:Inv X aa σ H s)(c:H l=some (.lst xs)):xs.length<=sizeLine/\∃(a:List Value)(n:Nat),Vals xs a/\xs.length=a.length/\s.heap.get? l=some {cls:=.type "list",data:=.seq a.toArray n}:=by
 obtain⟨z,a,n,r,e⟩:=I.hok l _ c;exact⟨z,a,n,r,r.length,e⟩
end
section
variable{X:Cx}
def zlf:V->List V->Hp->VK->Prop:=fun x vs H Q=>∃l xs y,x=.ref l/\vs=[y]/\H l=some (.lst xs)/\xs.length<sizeLine/\Q .non (upd H l (.lst (xs++[y])))
def gC:jp X "list.append" zlf:=by
 intro aa s σ H x vs v us Q I d f h;obtain⟨l,xs,y,rfl,rfl,a,i,q⟩:=h;cases d;obtain⟨u,rfl,g⟩:=f.one;obtain⟨z,c,n,r,j,e⟩:=I.lstM a;refine call_meets F.slot_list_append ⟨_,e,rfl⟩ F.entry_list_append (F.args_list_append_2 _ _) (PySem.list_append l c.toArray n u (by rw[Am];omega)) ⟨e,?_⟩;refine⟨.non,_,I.lset (its':=c++[u]) a e (by simp) (r.append (.cons g .nil)) ?_,rfl,q⟩;rw[Aq,List.length_singleton];omega
def zmr:V->List V->Hp->VK->Prop:=fun x vs H Q=>∃l xs i k y,x=.ref l/\vs=[.int i]/\H l=some (.lst xs)/\-(2 ^ 63)<=i/\i<2 ^ 63/\seqIndex? i xs.length=some k/\xs[k]?=some y/\Q y (upd H l (.lst (xs.eraseIdx k)))
def xa:jp X "list.pop" zmr:=by
 intro aa s σ H x vs v us Q I d f h;obtain⟨l,xs,i,k,y,rfl,rfl,c,h1,h2,hk,hy,q⟩:=h;cases d;obtain⟨u,rfl,g⟩:=f.one;obtain⟨t,rfl⟩:=g;obtain⟨z,a,n,r,j,e⟩:=I.lstM c;obtain⟨w,hw,o⟩:=r.get hy;refine call_meets F.slot_list_pop ⟨_,e,rfl⟩ F.entry_list_pop (F.args_list_pop_2 _ _)
  (MeetsSeq.list_pop_at l a.toArray n i t k w (fitsIndex_both h1 h2) (by rw[Am,<-j];exact hk) (by rw[<-AD];exact hw) (by rw[Am];omega)) ⟨e,?_⟩
 refine⟨y,_,I.lset (its':=a.eraseIdx k) c e ?_ (r.eraseIdx k) ?_,o,q⟩
 ·show a.toArray.eraseIdxIfInBounds k=(a.eraseIdx k).toArray
  rw[List.eraseIdxIfInBounds_toArray]
 ·have:=w_ xs k
  omega
def qI:R2:=fun x y H Q=>∃l b xs zs,x=.ref l/\y=.ref b/\H l=some (.lst xs)/\H b=some (.lst zs)/\xs.length+zs.length<=sizeLine/\∀p,H p=none->Q (.ref p) (upd H p (.lst (xs++zs)))
def eO:bZ X (binaryOp .Add) qI:=by
 intro aa s σ H x y v u Q I d f h;obtain⟨l,b,xs,zs,rfl,rfl,g,i,p,q⟩:=h;cases d;cases f;obtain⟨z,a,n,r,w,e⟩:=I.lstM g;obtain⟨z2,c,n2,j,A,e2⟩:=I.lstM i;refine PySem.P.add_list e e2 ?_ (by rw[Am,Am];omega);have o:a.toArray++c.toArray=(a++c).toArray:=by simp
 rw[o];exact⟨.ref _,_,I.lnew (t':=s.toks) (r.append j) (by rw[Aq];omega),rfl,q _ I.fresh⟩
end
section
variable{prog:Program}{w:World}{A:Around}{E:Ω}{s:Shared}
set_option maxRecDepth 100000 in
end
section
variable{κ:Type}[DecidableEq κ]
def cv(kvs:List (κ×V))(k:κ):Option V:=(kvs.find? fun a=>decide (a.1=k)).map (·.2)
def putK(kvs:List (κ×V))(k:κ)(v:V):List (κ×V):=
 if(kvs.any fun a=>decide (a.1=k))=true then kvs.map (fun a=>if a.1=k then(a.1,v) else a) else kvs++[(k,v)]
def Ja(kvs:List (κ×V))(k:κ):List (κ×V):=kvs.filter fun a=>decide (a.1≠k)
def qK{p:κ×V}{r:List (κ×V)}{k:κ}(e:p.1=k):cv (p::r) k=some p.2:=by simp[cv,List.find?_cons,e]
def qN{p:κ×V}{r:List (κ×V)}{k:κ}(e:¬p.1=k):cv (p::r) k=cv r k:=by simp[cv,List.find?_cons,e]
def qU(k:κ):∀kvs:List (κ×V),(kvs.any fun a=>decide (a.1=k))=(cv kvs k).isSome
 |[]=>rfl
 |p::r=>by
  rw[List.any_cons]
  by_cases e:p.1=k
  ·simp only[qK e,decide_eq_true e,Bool.true_or,Option.isSome_some]
  ·rw[qN e,decide_eq_false e,Bool.false_or];exact qU k r
def xb(kvs:List (κ×V))(k:κ)(v:V):(putK kvs k v).length<=kvs.length+1:=by
 unfold putK;split
 ·rw[Ab];omega
 ·rw[Aq,Ap,List.length_nil];omega
def RelO.isSome_eq{o:Option V}{u:Option Value}(r:RelO o u):o.isSome=u.isSome:=by
 cases o with
 |none=>cases u with
  |none=>rfl
  |some _=>exact(show False from r).elim
 |some _=>cases u with
  |none=>exact(show False from r).elim
  |some _=>rfl
def KV.val{kvs:List (κ×V)}{vs:List (κ×Value)}(r:KV kvs vs)(k:κ):RelO (cv kvs k) (valueAt vs k):=by
 unfold KV at r
 induction r with
 |nil=>exact True.intro
 |@cons p q ps a h t d=>
  obtain⟨h1,h2⟩:=h
  by_cases e:p.1=k
  ·have c:q.1=k:=h1.symm.trans e
   have b:valueAt (q::a) k=some q.2:=by simp[valueAt,List.find?_cons,c]
   rw[qK e,b];exact h2
  ·have c:¬q.1=k:=fun z=>e (h1.trans z)
   have b:valueAt (q::a) k=valueAt a k:=by simp[valueAt,List.find?_cons,c]
   rw[qN e,b];exact d
def KV.any{kvs:List (κ×V)}{vs:List (κ×Value)}(r:KV kvs vs)(k:κ):(kvs.any fun a=>decide (a.1=k))=vs.any fun a=>decide (a.1=k):=by
 unfold KV at r
 induction r with
 |nil=>rfl
 |cons h t ih=>rw[List.any_cons,List.any_cons,ih,h.1]
def KV.repl{kvs:List (κ×V)}{vs:List (κ×Value)}(r:KV kvs vs)(k:κ){y:V}{u:Value}(c:RelV y u):KV (kvs.map fun a=>if a.1=k then(a.1,y) else a) (vs.map fun a=>if a.1=k then(a.1,u) else a):=by
 unfold KV at r ⊢
 induction r with
 |nil=>exact .nil
 |@cons p q ps qs h t ih=>
  rw[AT,AT];refine .cons ?_ ih;obtain⟨h1,h2⟩:=h
  by_cases e:p.1=k
  ·rw[if_pos e,if_pos (h1.symm.trans e)];exact⟨h1,c⟩
  ·rw[if_neg e,if_neg (fun z=>e (h1.trans z))];exact⟨h1,h2⟩
def KV.put{kvs:List (κ×V)}{vs:List (κ×Value)}(r:KV kvs vs)(k:κ){y:V}{u:Value}(a:RelV y u):KV (putK kvs k y) (stored vs k u):=by
 unfold putK stored;rw[r.any k]
 by_cases e:(vs.any fun c=>decide (c.1=k))=true
 ·rw[if_pos e,if_pos e];exact r.repl k a
 ·rw[if_neg e,if_neg e];exact Paired.snoc r ⟨rfl,a⟩
def KV.length{kvs:List (κ×V)}{vs:List (κ×Value)}(r:KV kvs vs):kvs.length=vs.length:=Paired.length r
end
def q0{P:Program}{w:World}{k:Key}{u:Value}(r:RelV (kV k) u):(zH P w).is k u=true:=by
 cases k with
 |inl i=>obtain⟨t,e⟩:=(show ∃t,u=Value.int i t from r);subst e;exact oW P w i t
 |inr x=>obtain⟨t,e⟩:=(show ∃t,u=Value.str x t from r);subst e;exact CK P w x t
def xf{P:Program}{w:World}:∀{ks:List Key}{us:List Value},Vals (ks.map kV) us->ItemsAre (zH P w) ks us
 |[],_,r=>by rw[List.map_nil] at r;cases r;exact .nil
 |k::ks,_,r=>by
  rw[AT] at r;cases r with
  |cons h t=>exact .cons (q0 h) (xf t)
abbrev KT(H:Hp):List (List Key×V)->List (List Key×Addr×Value)->Prop:=Paired fun p q=>p.1=q.1/\H q.2.1=some (.tup (p.1.map kV))/\RelV p.2 q.2.2
def KT.val{H:Hp}{kvs:List (List Key×V)}{xs:List (List Key×Addr×Value)}(r:KT H kvs xs)(k:List Key):RelO (cv kvs k) ((atKey xs k).map (·.2)):=by
 induction r with
 |nil=>exact True.intro
 |@cons p q ps a h t d=>
  obtain⟨h1,_,h2⟩:=h
  by_cases e:p.1=k
  ·have c:q.1=k:=h1.symm.trans e
   have b:atKey (q::a) k=some q.2:=by simp[atKey,List.find?_cons,c]
   rw[qK e,b];exact h2
  ·have c:¬q.1=k:=fun z=>e (h1.trans z)
   have b:atKey (q::a) k=atKey a k:=by simp[atKey,List.find?_cons,c]
   rw[qN e,b];exact d
def KT.repl{H:Hp}{kvs:List (List Key×V)}{xs:List (List Key×Addr×Value)}(r:KT H kvs xs)(k:List Key){y:V}{u:Value}(d:RelV y u):KT H (kvs.map fun a=>if a.1=k then(a.1,y) else a) (xs.map (putAt k u)):=by
 induction r with
 |nil=>exact .nil
 |@cons p q ps qs h t ih=>
  rw[AT,AT];refine .cons ?_ ih;obtain⟨h1,h2,c⟩:=h;unfold putAt
  by_cases e:p.1=k
  ·rw[if_pos e,if_pos (h1.symm.trans e)];exact⟨h1,h2,d⟩
  ·rw[if_neg e,if_neg (fun z=>e (h1.trans z))];exact⟨h1,h2,c⟩
def KT.put{H:Hp}{kvs:List (List Key×V)}{xs:List (List Key×Addr×Value)}(r:KT H kvs xs)(k:List Key){b:Addr}{y:V}{u:Value}(hb:H b=some (.tup (k.map kV)))(a:RelV y u):KT H (putK kvs k y) (storedH xs k b u):=by
 have e:(kvs.any fun c=>decide (c.1=k))=(atKey xs k).isSome:=by
  rw[qU,(r.val k).isSome_eq,Option.isSome_map]
 unfold putK storedH;rw[e]
 by_cases q:(atKey xs k).isSome=true
 ·rw[if_pos q,if_pos q];exact r.repl k a
 ·rw[if_neg q,if_neg q];exact Paired.snoc r ⟨rfl,hb,a⟩
def KT.keeps{H H':Hp}{kvs:List (List Key×V)}{xs:List (List Key×Addr×Value)}(r:KT H kvs xs)(ht:∀b ys,H b=some (.tup ys)->H' b=some (.tup ys)):KT H' kvs xs:=
 Paired.mapP r fun _ _ z=>⟨z.1,ht _ _ z.2.1,z.2.2⟩
section
variable{P:Program}{w:World}{H:Hp}{h:Heap}{a:Addr}
def xg{u:HO}(ok:HOk P w H h)(e:Rd H a u):zQ P w H h a u:=e.ok ok
def xh{kvs:List (Key×V)}(ok:HOk P w H h)(e:Rd H a (.dK kvs)):kvs.length<=sizeLine/\(a==sysModules)=false/\∃vs,KV kvs vs/\h.DictOf (zH P w) a vs:=
 show zQ P w H h a (.dK kvs) from xg ok e
def xi{kvs:List (Key×V)}(ok:HOk P w H h)(e:H a=some (.dK kvs)):kvs.length<=sizeLine/\(a==sysModules)=false/\∃vs,KV kvs vs/\h.DictOf (zH P w) a vs:=xh ok (.inl e)
def rc{ks:List Key}(ok:HOk P w H h)(e:H a=some (.tup (ks.map kV))):(tupleKind (zH P w)).is h ks a:=by
 obtain⟨_,c,r,o,h1,h2,n,d⟩:=(show zQ P w H h a (.tup (ks.map kV)) from ok a _ e);exact⟨o,c.toArray,n,h1,h2,d,by simpa using xf r⟩
def xj{kvs:List (List Key×V)}(ok:HOk P w H h)(e:Rd H a (.dT kvs)):kvs.length<=sizeLine/\(a==sysModules)=false/\
  ∃xs,KT H kvs xs/\h.DictOfH (tupleKind (zH P w)) a xs:=by
 obtain⟨z,y,xs,r,o,es,ep,h1,h2,c,d,f⟩:=(show zQ P w H h a (.dT kvs) from xg ok e);refine⟨z,y,xs,r,o,es,ep,h1,h2,c,d,fun x hx=>?_,f⟩;have all:∀{l:List (List Key×V)}{m:List (List Key×Addr×Value)},KT H l m->∀x∈m,(tupleKind (zH P w)).is h x.1 x.2.1:=by
  intro l m q
  induction q with
  |nil=>intro x hx;exact nomatch hx
  |@cons p q ps qs hq t ih=>
   intro x hx;rcases List.mem_cons.mp hx with e|hx
   ·subst e
    exact rc ok (by rw[<-hq.1];exact hq.2.1)
   ·exact ih x hx
 exact all r x hx
def DF{kvs:List (List Key×V)}(ok:HOk P w H h)(e:H a=some (.dT kvs)):kvs.length<=sizeLine/\(a==sysModules)=false/\
  ∃xs,KT H kvs xs/\h.DictOfH (tupleKind (zH P w)) a xs:=xj ok (.inl e)
end
def DGet(H:Hp)(a:Addr)(y:V)(r:Option V):Prop:=
 (∃kvs k,Rd H a (.dK kvs)/\y=kV k/\r=cv kvs k)\/∃kvs k b,Rd H a (.dT kvs)/\y=.ref b/\H b=some (.tup (k.map kV))/\r=cv kvs k
def DPut(H:Hp)(a:Addr)(y v:V)(H':Hp):Prop:=
 (∃kvs k,H a=some (.dK kvs)/\y=kV k/\kvs.length<sizeLine/\H'=upd H a (.dK (putK kvs k v))) \/
 ∃kvs k b,H a=some (.dT kvs)/\y=.ref b/\H b=some (.tup (k.map kV))/\kvs.length<sizeLine/\H'=upd H a (.dT (putK kvs k v))
def DGet.k{H:Hp}{a:Addr}{kvs:List (Key×V)}{k:Key}(e:H a=some (.dK kvs)):DGet H a (kV k) (cv kvs k):=.inl ⟨kvs,k,.inl e,rfl,rfl⟩
def DGet.t{H:Hp}{a b:Addr}{kvs:List (List Key×V)}{k:List Key}(e:H a=some (.dT kvs))(c:H b=some (.tup (k.map kV))):DGet H a (.ref b) (cv kvs k):=.inr ⟨kvs,k,b,.inl e,rfl,c,rfl⟩
def DPut.k{H:Hp}{a:Addr}{kvs:List (Key×V)}{k:Key}{v:V}(e:H a=some (.dK kvs))(c:kvs.length<sizeLine):DPut H a (kV k) v (upd H a (.dK (putK kvs k v))):=.inl ⟨kvs,k,e,rfl,c,rfl⟩
def DPut.t{H:Hp}{a b:Addr}{kvs:List (List Key×V)}{k:List Key}{v:V}(e:H a=some (.dT kvs))(c:H b=some (.tup (k.map kV)))(d:kvs.length<sizeLine):DPut H a (.ref b) v (upd H a (.dT (putK kvs k v))):=.inr ⟨kvs,k,b,e,rfl,c,d,rfl⟩
section
variable{X:Cx}{aa:Ψ}{σ:St}{H:Hp}{s:Shared}{a:Addr}{y v:V}{u r:Value}{o:Option V}{A:Around}{E:Ω}
def Inv.big(I:Inv X aa σ H s):sysModules<s⁻¹:=by
 have h:mainGlobals<s⁻¹:=(I.mod.glob.keeps I.bk).lt;exact Nat.lt_trans ξ h
def DG{Q:Ω}(hu:A.units+1<cLine)(I:Inv X aa σ H s)(g:DGet H a y o)(f:RelV y u)(h:∀s',Inv X aa σ H s'->Q (.bool (!o.isSome)) s'):wpAny (model X.prog X.w) A (compareOp .NotIn u (.ref a)) Q E s:=by
 rcases g with ⟨kvs,k,e,d,l⟩|⟨kvs,k,b,e,d,i,l⟩
 ·subst d
  obtain⟨z,hd,vs,c,dd⟩:=xh I.hok e;refine wpAny_notIn_of (q0 f) hd dd.mapOf ?_;rw[<-(c.val k).isSome_eq,<-l];exact h _ (I.tok _)
 ·subst d
  cases(show u=Value.ref b from f);obtain⟨z,hd,xs,c,dd⟩:=xj I.hok e;refine wpAny_notIn_heap (tupleKind_room_in1 hu) (rc I.hok i) hd dd ?_;have q:=(c.val k).isSome_eq;rw[Option.isSome_map] at q;rw[<-q,<-l];exact h _ (I.tok _)
def xk{h':Heap}{t':Nat}{c:HO}(I:Inv X aa σ H s)(d:j5 (H a))(hs:A4 a s.heap h')(he:∃q,h'.get? a=some q)(new:zQ X.prog X.w (upd H a c) h' a c):Inv X aa σ (upd H a c) {s with heap:=h',toks:=t'}:=
 I.write (x:=a) (e:=a) d (.inl rfl) (fun b q hb z=>(hs.2 b hb).trans z) he new
def dk_new{P:Program}{w:World}{H':Hp}{h':Heap}{kvs:List (Key×V)}{vs:List (Key×Value)}(z:kvs.length<=sizeLine)(hd:(a==sysModules)=false)(c:KV kvs vs)(dd:h'.DictOf (zH P w) a vs):zQ P w H' h' a (.dK kvs):=⟨z,hd,vs,c,dd⟩
def DH{H':Hp}{Q:Unit->Shared->Prop}(hu:A.units+1<cLine)(I:Inv X aa σ H s)(g:DPut H a y v H')(F:RelV y u)(x:RelV v r)(h:∀s',Inv X aa σ H' s'->Q () s'):wpAny (model X.prog X.w) A (setItem (.ref a) u r) Q E s:=by
 rcases g with ⟨kvs,k,e,j,l,o⟩|⟨kvs,k,b,e,j,C,l,o⟩
 ·subst j o
  obtain⟨z,hd,vs,d,dd⟩:=xi I.hok e;have p:vs.length<=sizeLine:=by rw[<-d.length];exact z
  have i:(putK kvs k v).length<=sizeLine:=by have:=xb kvs k v;omega
  refine wpAny_setItem_pairs (hsz:=p) (q0 F) dd fun h' f hs=>h _ ?_;have he:∃q,h'.get? a=some q:=let ⟨q,_,_,hq,_⟩:=f;⟨q,hq⟩;exact xk I (by rw[e];exact True.intro) hs he (dk_new i hd (d.put k x) f)
 ·subst j o
  cases(show u=Value.ref b from F);obtain⟨z,hd,xs,d,dd⟩:=DF I.hok e;have p:xs.length<=sizeLine:=by rw[<-Paired.length d];exact z
  have i:(putK kvs k v).length<=sizeLine:=by have:=xb kvs k v;omega
  refine wpAny_setItem_heap (hsz:=p) (tupleKind_room_in1 hu) (rc I.hok C) dd fun h' f hs=>h _ ?_;obtain⟨q,es,ep,hq,h2,G,J,_,L⟩:=f;refine xk I (by rw[e];exact True.intro) hs ⟨q,hq⟩ ⟨i,hd,_,(d.put k C x).keeps fun c ys D=>?_,q,es,ep,hq,h2,G,J,L⟩;rw[zi (fH D e (fun z=>nomatch z))];exact D
end
def rf(ty td:TE):TE:=fun σ H Q=>ty σ H fun y H1=>td σ H1 fun x H2=>∃a o,x=.ref a/\DGet H2 a y o/\Q (.bl (!o.isSome)) H2
def DI(td ty tv:TE):TS:=fun D σ H=>tv σ H fun v H1=>td σ H1 fun x H2=>ty σ H2 fun y d=>∃a c,x=.ref a/\DPut d a y v c/\D.nx σ c
section
variable{X:Cx}{o i e bf:Expr}{pos aH eW:Pos}{td ty tv:TE}
def DJ(hu:X.A.units+1<cLine)(hi:PE X i ty)(l:PE X o td):PC X .NotIn i o (rf ty td):=by
 intro aa s σ H Q I h;refine bd (hi aa s σ H _ I h) fun iv c ⟨y,H1,p,d,q1⟩=>bd (l aa c σ H1 _ p q1) fun u v ⟨x,H2,q,e,a,f,ex,g,j⟩=>?_;subst ex;obtain rfl:u=Value.ref a:=e;exact DG hu q g d fun w r=>⟨.bl (!f.isSome),H2,r,rfl,j⟩
def mN(hu:X.A.units+1<cLine)(q:PE X o td)(hi:PE X i ty)(w:PE X bf tv)(hs:swapsWith bf (some (.Subscript o i aH)) pos.line X.env=pure false):PS X (.Assign [.Subscript o i aH] bf pos) (DI td ty tv):=by
 intro aa s σ H D I h;refine wpAny_Assign_Subscript (bd (w aa s σ H _ I h) fun r c ⟨v,H1,z,d,q1⟩=>bd (q aa c σ H1 _ z q1) fun u e ⟨x,H2,C,f,j⟩=>bd (hi aa e σ H2 _ C j) fun iv J ⟨y,M,E,l,a,F,ex,g,p⟩=>?_) hs;subst ex;obtain rfl:u=Value.ref a:=f;exact DH hu E g l d fun L G=>⟨σ,F,G,p⟩
end
def DK{P:Program}{w:World}{H:Hp}(h:Heap)(hb:sysModules<h.objs.size):zQ P w H (h.push {cls:=.type "dict",data:=.dict #[]}) h.objs.size (.dK []):=
 ⟨AW _,beq_eq_false_iff_ne.mpr (Ne.symm (Al hb)),[],.nil,Heap.DictOf.new h⟩
def DL{P:Program}{w:World}{H:Hp}(h:Heap)(hb:sysModules<h.objs.size):zQ P w H (h.push {cls:=.type "dict",data:=.dict #[]}) h.objs.size (.dT []):=
 ⟨AW _,beq_eq_false_iff_ne.mpr (Ne.symm (Al hb)),[],.nil,_,#[],0,Av _ rfl,⟨rfl,rfl,rfl⟩,rfl,rfl,List.nodup_nil⟩
def DM:TE:=fun _ H Q=>∀p,H p=none->Q (.ref p) (upd H p (.dK []))
def DN:TE:=fun _ H Q=>∀p,H p=none->Q (.ref p) (upd H p (.dT []))
section
variable{X:Cx}{pos:Pos}
def DO:PE X (.Dict [] [] pos) DM:=fun aa s σ H Q I h=>
 wpAny_Dict_empty ⟨.ref s⁻¹,_,I.laid (a:=s⁻¹) (o:=.dK []) (t':=s.toks) (fun _ _ q=>Ac _ q) (Ag _) (DK s.heap I.big),rfl,h _ (I.hok.fresh (Ag _))⟩
def rg:PE X (.Dict [] [] pos) DN:=fun aa s σ H Q I h=>
 wpAny_Dict_empty ⟨.ref s⁻¹,_,I.laid (a:=s⁻¹) (o:=.dT []) (t':=s.toks) (fun _ _ q=>Ac _ q) (Ag _) (DL s.heap I.big),rfl,h _ (I.hok.fresh (Ag _))⟩
end
structure M1(X:Cx)(o:Expr)(m:Str)(cx:Pos)(e:Expr)(aK:Pos):Prop where
 base:attributeBase o m X.env (eval o X.env)=eval o X.env
 few:((backTo aK (starEach [e] X.env)).all (fun x=>!x.1)&&(backToKw aK (keywordEach [] X.env)).all (fun x=>x.1.isSome)
  && decide (([e]:List Expr).length+([]:List Keyword).length+(if([]:List Keyword).isEmpty then 0 else 1)<30))=true
 line:(cx.endLine==aK.line)=true
 trees:backTo aK (starEach [e] X.env)=[(false,eval e X.env)]
structure M2(X:Cx)(o:Expr)(m:Str)(cx:Pos)(e f:Expr)(aK:Pos):Prop where
 base:attributeBase o m X.env (eval o X.env)=eval o X.env
 few:((backTo aK (starEach [e,f] X.env)).all (fun x=>!x.1)&&(backToKw aK (keywordEach [] X.env)).all (fun x=>x.1.isSome)
  && decide (([e,f]:List Expr).length+([]:List Keyword).length+(if([]:List Keyword).isEmpty then 0 else 1)<30))=true
 line:(cx.endLine==aK.line)=true
 trees:backTo aK (starEach [e,f] X.env)=[(false,eval e X.env),(false,eval f X.env)]
def IsD(H:Hp)(a:Addr):Prop:=(∃kvs,Rd H a (.dK kvs))\/∃kvs,Rd H a (.dT kvs)
end L2
namespace Att
open PySem PySem.W PySem.Calls PyProof.Rows
def DP{P:Params}{h:Heap}:∀(ns:List Int)(vs:List Value),WellAll P h vs (ns.map WData.int)->IntsAre vs ns:=by
 intro ns
 induction ns with
 |nil=>
  intro vs w;rw[List.map_nil] at w;cases w;exact .nil
 |cons n ns ih=>
  intro vs w;rw[AT] at w;cases w with
  |cons a b=>
   cases a;exact .cons _ _ (ih _ b)
def DQ{l:OpenLaw}{n:Nat}(s:l.most=some n){P:Params}{h:Heap}{args:List WData}{vals:List Value}(j:l.row.toRowW.claim.pre args=true)(i:WellAll P h vals args):∃a vs ns,vals=[Value.ref a]/\args=[WData.list (ns.map WData.int)]/\h.get? a=some {cls:=.type "list",data:=.seq vs.toArray}/\IntsAre vs ns/\ns.length<=n:=by
 have g:WShape.hasAll [] args [.list .int]=true:=(pre_splitW j).1;have hc:l.pre.holds [] {args:=args}=true:=(pre_splitW j).2;obtain⟨d,r,rfl,h1,h2⟩:=hasAllW_cons g;obtain rfl:=hasAllW_nil h2;obtain⟨xs,rfl,o⟩:=hasW_list h1;obtain⟨ns,rfl⟩:=items_int o;have c:ns.length<=n:=by
  unfold OpenLaw.pre at hc;have e:(WTm.not (.lt (.lit (.int (n:Int))) (.len (.arg 0)))).holds [] {args:=[.list (ns.map .int)]}=true:=by
   have e:=(holds_andW hc).1;rw[s] at e;exact e
  have f:=condW_of e (w_not (w_lt w_lit (w_len_list (w_arg rfl))));rw[Ab] at f;refine Nat.le_of_not_lt fun q=>?_;have p:(n:Int)<((ns.length:Nat):Int):=ω
  first
   |(rw[decide_eq_true p] at f;exact absurd f ξ)
   |(simp at f;omega)
 cases i with
 |cons w1 w2=>
  cases w2;cases w1 with
  |list ho hall=>exact⟨_,_,ns,rfl,rfl,ho,DP ns _ hall,c⟩
def DR(l:OpenLaw)(args:List WData):l.row.toRowW.claim.post args (.bool true) args=true:=
 postW_of (r:=l.row.toRowW) (X:=(true==true))
  (show WShape.has [] (.bool true) .bool=true by first|rfl|decide|simp[WShape.has,WShape.arms,WShape.armsAll])
  (show(WTm.eq .res (.lit (.bool true))).value [] {args:=args,res:=some (.bool true),after:=args}=some (.bool (true==true)) from w_eq_bool (w_res rfl) w_lit) rfl
def DS{l:OpenLaw}{n:Nat}{q:Program}{u:List Str}{v:(Str->Option Value)->Heap->Prop}{x:World->Heap->Prop}{d:DefRec}(L:l.most=some n)(M:d.params.defaults=[])(call:∀(w:World)(s₀ c:Shared)(mg h:Str->Option Value)(fa:Addr)(o:Obj)(i g j:Value)(a:Addr)(vs:List Value)(ns:List Int),
   Ground q u [] v w s₀ mg h c.heap->x w c.heap->
   c.heap.get? fa=some o->o.data=.func (docDef d.name d.params d.body d.scope i g j)->c.heap.CodeRec g d.name->mg d.name=some (.ref fa)->
   c.heap.get? a=some {cls:=.type "list",data:=.seq vs.toArray}->IntsAre vs ns->ns.length<=n->c.gens=#[]->
   codeAny (model l.prog w) callerA (.call (.ref fa) ⟨[.ref a],[]⟩) (fun r s'=>r=.ok (.ret (.bool true))/\OldK c.heap s'.heap/\s'.os=c.os/\AllBare s'.gens) c):
  WalkO q u v x l.row.toRowW d [] (fun f vs=>PySem.call f vs):=by
 intro w s₀ c mg h G Y fa o i g j y kV z hd A s C D args vals as E N O p P;obtain rfl:y=.none:=Dflts.none s M;obtain rfl:kV=.none:=Dflts.noKw s;obtain⟨a,vs,ns,rfl,rfl,F,H,e⟩:=DQ L E p;refine enter_call (codeAny_mono (call w s₀ c mg h fa o i g j a vs ns G Y z (fd_plain hd) A C F H e D) fun r s' hq=>?_);obtain⟨rfl,h2,I,J⟩:=hq;exact⟨.inl ⟨.bool true,.bool true,[],rfl,fun _=>rfl,.bool true,DR l _,fun _=>⟨List.Pairwise.nil,fun _ hm=>(nomatch hm)⟩⟩,h2,I,J⟩
section
variable{prog:Program}{w:World}{A:Around}{E:Ω}{s:Shared}{K:Frag}
def ledger(h:Heap)(L d:Addr):Ψ:=(AQ h.objs.size).filterMap fun a=>if a=L\/a=d then none else(h.get? a).map fun o=>(a,o)
end
end Att
namespace L2
open PySem PySem.Spec PyProof.Rows
def xl:∀{vs:List Value}{ns:List Int},IntsAre vs ns->Vals (ns.map V.int) vs
 |_,_,.nil=>.nil
 |_,_,.cons n t h=>.cons ⟨t,rfl⟩ (xl h)
def iI(H:Hp):Prop:=∀b,H b=none\/∃o xs,H b=some (.frz o (.lst xs))
def DT{P:Program}{w:World}{K:Ae}{mg y:Str->Option Value}{CX:ei}{k:Nat}{fa a:Addr}{fd:FuncData}{x:Str}{sp:Sp}{c:Shared}{vs:List Value}{ns:List Int}(M:K.In c.heap)(J:c.heap.Ns mainGlobals mg)(hb:c.heap.Ns builtinsNs y)(rq:∀x:Str,x≠"__name__"->y x=Bh x)(ln:c.heap.NoLimit)(hg:c.gens=#[])(l:c.heap.get? a=some {cls:=.type "list",data:=.seq vs.toArray})(hi:IntsAre vs ns)(L:ns.length<=sizeLine)(hr:Room k callerA)(F:∀base:Heap,K.In base->base.Ns mainGlobals mg->FnOk P w K mg base CX k fa fd [x] sp)(iE:∀(s:Shared)(u:Value),BindsTo s fd ⟨[u],[]⟩ [(x,u)])(A:∀H:Hp,iI H->SqL K H a (ns.map V.int)->sp [.ref a] H (fun v _=>v=.bl true) fun _ _ _=>False)(mU:∀H e s',CX [] H c (fun _ _ _=>False) e s'->False):codeAny (model P w) callerA (.call (.ref fa) ⟨[.ref a],[]⟩) (fun r s'=>r=.ok (.ret (.bool true))/\OldK c.heap s'.heap/\s'.os=c.os/\AllBare s'.gens) c:=by
 have E:=xl hi;have U:=hi.length;have core:∀H:Hp,iI H->SqL K H a (ns.map V.int)->HOk P w H c.heap->(∀b,H b≠none->b=a)->(H a≠none->K.lookup a=none)->
   codeAny (model P w) callerA (.call (.ref fa) ⟨[.ref a],[]⟩) (fun r s'=>r=.ok (.ret (.bool true))/\OldK c.heap s'.heap/\s'.os=c.os/\AllBare s'.gens) c:=by
  intro H C N g D O;have G:∀{b:Addr}{o:Obj},c.heap.get? b=some o->H b=none->(c5 c.heap H).get? b=some o:=fun e n=>CM e n;have W:∀{b:Addr}{o:Obj}{es:Array DictEntry}{ep:Nat},c.heap.get? b=some o->o.data=.dict es ep->H b=none:=fun{b o es ep} e d=>by
   cases q:H b with
   |none=>rfl
   |some u=>
    have p:b=a:=D b (by rw[q];simp);subst p;rw[l] at e;cases e;have d':Data.seq vs.toArray _=Data.dict es ep:=d;cases d'
  have f:∀{b:Addr}{m:Str->Option Value},c.heap.Ns b m->(c5 c.heap H).Ns b m:=fun{b m} ⟨o,es,ep,e,d,r⟩=>⟨o,es,ep,G e (W e d),d,r⟩;have I:K.In (c5 c.heap H):=fun b o e=>G (M b o e) (by
   cases q:H b with
   |none=>rfl
   |some u=>
    have p:b=a:=D b (by rw[q];simp);subst p;rw[O (by rw[q];simp)] at e;cases e)
  have X:Mod K mg (c5 c.heap H):=⟨I,f J,⟨y,f hb,rq⟩,let ⟨mc,h1,h2⟩:=ln;⟨mc,f h1,h2⟩⟩;have Y:Env0 P w K mg (c5 c.heap H) callerA [] c H:=⟨rfl,X,fun b o e=>CN e,Nat.le_of_eq (CL _ _),trivial,fun b hb=>absurd (show b∈([]:List Addr) from hb) (by simp),g,.of_eq hg⟩;refine codeAny_mono ((F _ I (f J)).run callerA [] c H ⟨[.ref a],[]⟩ [.ref a] [.ref a] _ _ hr Y (iE c (.ref a)) (.cons rfl .nil) (A H C N)) fun r s' h=>?_;cases r with
  |error e=>exact(mU H e s' h).elim
  |ok fl=>
   cases fl with
   |next=>exact False.elim h
   |brk=>exact False.elim h
   |cont=>exact False.elim h
   |ret u=>
    obtain⟨v,H',os,i,un,Q,S,q⟩:=h;have Z:v=.bl true:=q;subst Z;obtain rfl:u=Value.bool true:=S;refine⟨rfl,OldK.of_keep fun b o e=>?_,os,i⟩;cases q:H b with
    |none=>exact un.keep b o e q (by intro z;exact absurd (show b∈([]:List Addr) from z) (by simp)) (by simp)
    |some u=>
     rcases C b with z|⟨T,xs,z⟩
     ·rw[q] at z;cases z
     ·have z2:=un.frzs b T _ z
      obtain⟨e1,_⟩:=g b _ z;obtain⟨e2,_⟩:=Q b _ z2;rw[e] at e1;cases e1;exact e2
 cases hk:K.lookup a with
 |some o=>
  have e:=M a o hk;rw[l] at e;cases e;refine core (fun _=>none) (fun _=>.inl rfl) (.inr ⟨_,vs.toArray,_,hk,rfl,rfl,rfl,by rw[Am,U];exact L,by simpa using E⟩) (fun b u z=>by have j:(none:Option HO)=some u:=z;cases j) (fun b z=>absurd rfl z) fun z=>absurd rfl z
 |none=>
  refine core (fun b=>if b=a then some (.frz {cls:=.type "list",data:=.seq vs.toArray} (.lst (ns.map V.int))) else none) (fun b=>?_) (.inl (.inr ⟨{cls:=.type "list",data:=.seq vs.toArray},if_pos rfl⟩)) (fun b u z=>?_) (fun b z=>?_) fun _=>hk
  ·by_cases hb:b=a
   ·exact .inr ⟨_,_,if_pos hb⟩
   ·exact .inl (if_neg hb)
  ·by_cases hb:b=a
   ·have j:=(if_pos hb).symm.trans z
    cases j;subst hb;exact⟨l,by rw[Ab];exact L,vs,_,E,l⟩
   ·have j:=(if_neg hb).symm.trans z
    cases j
  ·by_cases hb:b=a
   ·exact hb
   ·exact absurd (if_neg hb) z
abbrev xm{K:Ae}{h:Heap}(_:K.In h):Ae:=K
def xn{l:PySem.W.OpenLaw}{n k:Nat}{q:Program}{J:List Str}{Q:(Str->Option Value)->Heap->Prop}{p:World->Heap->Prop}{d:DefRec}{K:Params->Ae}{CX:World->ei}{sp:World->Sp}{x:Str}(L:l.most=some n)(M:n<=sizeLine)(N:d.params.defaults=[])(hr:Room k callerA)(O:∀(w:World)(h:Heap),p w h->(K w.params).In h)(F:∀(w:World)(mg:Str->Option Value)(fa:Addr)(h:Heap),(K w.params).In h->h.Ns mainGlobals mg->mg d.name=some (.ref fa)->
   ∃fd:FuncData,(∀(s:Shared)(u:Value),BindsTo s fd ⟨[u],[]⟩ [(x,u)])/\
    ∀base:Heap,(K w.params).In base->base.Ns mainGlobals mg->FnOk l.prog w (K w.params) mg base (CX w) k fa fd [x] (sp w))
  (i:∀(w:World)(H:Hp)(a:Addr)(ns:List Int),ns.length<=n->iI H->SqL (K w.params) H a (ns.map V.int)->sp w [.ref a] H (fun v _=>v=.bl true) fun _ _ _=>False)
  (P:∀(w:World)(H:Hp)(s:Shared)(e:Value)(s':Shared),CX w [] H s (fun _ _ _=>False) e s'->False) :
  PySem.W.WalkO q J Q p l.row.toRowW d [] (fun f vs=>PySem.call f vs):=by
 refine Att.DS L N fun w s₀ r mg S fa o U X Z a vs ns G Y ho hd cf y z A c C=>?_;have j:=O w _ Y;obtain⟨fd,hb,I⟩:=F w mg fa _ j G.T.g y;exact DT j G.T.g G.T.b G.T.builtins G.T.nolimit C z A (AA c M) hr I hb (fun H D E=>i w H a ns c D E) fun H e s'=>P w H r e s'
end L2
/- THE LAST THEOREM (shape;LID,My.* are yours):
  My.Adr: a structure of kl addresses that your layer names (classes,functions);My.Txt K t: a structure (Prop) of kl equations over K;
  My.txt_mk:{K} {implicit addresses ..} (e1:nsIn K mainGlobals "law"=some (some (.ref f))) (e2:K.lookup f=some ⟨oc,od,.func (fnOf "law" "law" bA body scope dV kV bx pm an cdv ct),sl⟩) (e3:codeIn K cdv "law"=true) ..:∃t,My.Txt K t
set_option maxRecDepth 100000 in
set_option maxHeartbeats 0 in
theorem PySem.Challenge.cw_LID_holds:PySem.Challenge.rw_LID.Holds := by
 w_on;o_law;k_head;(case hw=>w_witness2)
 k_fill
 refine L2.xn (l:=PySem.Challenge.rw_LID) (n:=63) (k:=40) (x:="script") (CX:=fun w=>..) (sp:=fun _=>My.sp_law) rfl ξ rfl ⟨rfl,ξ,ξ⟩ (fun w h Y=>PySem.W.kIn_of Y) ?F ?S ?C
 case F=>
  intro w mg fa h f G g;have T:∃t,My.Txt (L2.xm f) t:=by
   dsimp only[L2.xm]                          -- K must cG as «<heap const> w.params» for k_is
   refine' My.txt_mk ?e1 ?e2 ?e3 ..
   (case e1 => PySem.W.k_is)                    -- in e az: a name -> ag address -> ag object -> ag parts
   (case e2=>PySem.W.k_is)
   ..
  obtain⟨t,T⟩:=T;have i:=g.symm.trans (PySem.W.mg_of f G T.law);cases i                                       -- fa is e law's own address
  exact⟨_,fun s u => .of_eq rfl,fun base c d => My.law_fn T c d⟩     -- if «.of_eq rfl» comes too early: refine' ⟨_,?b,fun base c d => My.law_fn T c d⟩;exact fun s u => .of_eq rfl
 case S=>exact fun w H a ns j o p=>..
 case C=>exact ..
(e tactic k_is has q namespace: write k_is) -/
namespace L2
open PySem PySem.Spec PyProof.Rows
def zbG(s:Stmt):Arguments:=match s with
 |.FunctionDef _ a _ _ _ _ _ _ _ _=>a
 |_=>{posonlyargs:=[],args:=[],vararg:=none,kwonlyargs:=[],kw_defaults:=[],kwarg:=none,defaults:=[]}
def zM(s:Stmt):List Stmt:=match s with
 |.FunctionDef _ _ b _ _ _ _ _ _ _=>b
 |_=>[]
def zf(s:Stmt):Scope:=match s with
 |.FunctionDef _ _ _ _ _ _ sc _ _ _=>sc
 |_=>{kind:=.function,names:=[],isGenerator:=false,isCoroutine:=false}
abbrev aT:ei:=fun _ _ _ _ _ _=>False
abbrev E0:XK:=fun _ _ _=>False
def aw{X:Cx}:b8 aT X E0:=fun _ _ _ _ _ _ _ h=>h.elim
structure Fun(K:Ae)(x ai:Str)(st:Stmt)(f:Addr)(fd:FuncData):Prop where
 ex:∃(oc:Value)(od:Option Addr)(kV bx pm:Value)(an:Option Addr)(cdv ct:Value)(dj:Array (Option Value)),
  fd=PySem.W.fnOf x ai (zbG st) (zM st) (zf st) .none kV bx pm an cdv ct/\K.lookup f=some ⟨oc,od,.func fd,dj⟩/\PySem.W.codeIn K cdv ai=true
 kp:PySem.W.keepIn K (.ref f)=true
section
variable{P:Program}{w:World}{K:Ae}{mg:Str->Option Value}{base:Heap}
def Fun.ok{x c:Str}{st:Stmt}{f:Addr}{fd:FuncData}{N ps:List Str}{k:Nat}{sp:Sp}(F:Fun K x c st f fd)(S:zo N ps (zf st))(len:∀vs H Q E,sp vs H Q E->vs.length=ps.length)(e:∀(cdv:Value)(A:Around)(outer:List Env)(s:Shared)(H:Hp)(vs:List V)(Q:VK)(E:XK),Room k (A.deeper (envOfC c (zf st) s⁻¹ f cdv))->sp vs H Q E->
   ∃t,PSs (bh aT P w K mg base N c (zf st) f cdv A outer s H E).nox (zM st) t/\t {nx:=fun _ H'=>Q .non H',rt:=Q} (start N vs) H):FnOk P w K mg base aT (k+1) f fd ps sp:=by
 obtain⟨g,i,kV,j,l,o,cdv,ct,p,rfl,lk,d⟩:=F.ex;refine wR lk d S len fun A outer s H vs Q E hr a=>?_;obtain⟨t,h,q⟩:=e cdv A outer s H vs Q E hr a;exact⟨t,h.nox,q⟩
def Fun.binds{x e:Str}{st:Stmt}{f:Addr}{fd:FuncData}{ps:List Str}(F:Fun K x e st f fd)(h:∀(kV a c:Value)(d:Option Addr)(cdv ct:Value)(us:List Value),us.length=ps.length->bindArgs (PySem.W.fnOf x e (zbG st) (zM st) (zf st) .none kV a c d cdv ct) ⟨us,[]⟩=pure (ps.zip us)):Binds K fd ps []:=by
 obtain⟨g,i,kV,a,c,d,cdv,ct,j,rfl,lk,l⟩:=F.ex;exact .all (h kV a c d cdv ct)
def DU{x a:Str}{st:Stmt}{f:Addr}{i:Value}{j g:Option Addr}{h:Array (Option Value)}{kV d e cdv ct:Value}(l:K.lookup f=some ⟨i,j,.func (PySem.W.fnOf x a (zbG st) (zM st) (zf st) .none kV d e g cdv ct),h⟩)(c:PySem.W.codeIn K cdv a=true)(k:PySem.W.keepIn K (.ref f)=true):Fun K x a st f (PySem.W.fnOf x a (zbG st) (zM st) (zf st) .none kV d e g cdv ct):=⟨⟨i,j,kV,d,e,g,cdv,ct,h,rfl,l,c⟩,k⟩
end
def mO{A:Around}{k:Nat}(hr:Room k A):A.units+1<cLine:=Nat.lt_of_le_of_lt (Nat.add_le_add_left (by decide:1<=64) _) hr.units
section
variable{X:Cx}
def pv(i:Nat){x:Str}{pos:Pos}(a:X.N[i]?=some x:=by rfl)(c:ij X.env.scope x:=by first|exact Or.inl rfl|exact Or.inr (Or.inl rfl)|exact Or.inr (Or.inr rfl))(hd:(x==("__debug__":Str))=false:=by decide)
  (d:(x==("__classdict__":Str))=false:=by decide):PE X (.Name x pos) (aY i):=CP a c hd d
end
def bg{A B:Prop}(h:B):if false=true then A else B:=by
 rw[if_neg Ax];exact h
def be{A B:Prop}(h:A):if true=true then A else B:=by
 rw[if_pos rfl];exact h
def bU{c A B:Prop}[Decidable c](h1:c->A)(h2:¬c->B):if c then A else B:=by
 by_cases h:c
 ·rw[if_pos h]
  exact h1 h
 ·rw[if_neg h]
  exact h2 h
def Same(H H':Hp):Prop:=∀b o,H b=some o->H' b=some o
def Same.refl(H:Hp):Same H H:=fun _ _ h=>h
def Same.trans{H H1 H2:Hp}(a:Same H H1)(b:Same H1 H2):Same H H2:=fun c o h=>b c o (a c o h)
def Same.free{H H':Hp}(e:Same H H'){l:Addr}(h:H' l=Option.none):H l=Option.none:=by
 cases q:H l with
 |none=>rfl
 |some o=>
  rw[e l o q] at h;cases h
def Same.seq{K:Ae}{H H':Hp}{a:Addr}{xs:List V}(e:Same H H')(h:SqL K H a xs):SqL K H' a xs:=by
 rcases h with (h|⟨o,h⟩)|h
 ·exact .inl (.inl (e _ _ h))
 ·exact .inl (.inr ⟨o,e _ _ h⟩)
 ·exact .inr h
end L2
end
section
namespace Tim
open PySem PyProof.Rows
def R(ρ:Keyed->Int)(xs:Array Keyed)(i:Nat):Int:=match xs[i]? with
 |some p=>ρ p
 |none=>0
def gf{ρ:Keyed->Int}{xs ys:Array Keyed}{i j:Nat}(h:xs[i]?=ys[j]?):R ρ xs i=R ρ ys j:=by unfold R;rw[h]
def aL{ρ:Keyed->Int}{xs:Array Keyed}{i:Nat}{p:Keyed}(h:xs[i]?=some p):R ρ xs i=ρ p:=by unfold R;rw[h]
def bu(ρ:Keyed->Int)(xs:Array Keyed)(lo hi:Nat):Prop:=∀i j,lo<=i->i<=j->j<hi->R ρ xs i<=R ρ xs j
def js(ρ:Keyed->Int)(xs:Array Keyed)(lo hi:Nat):Prop:=∀i j,lo<=i->i<=j->j<hi->R ρ xs j<=R ρ xs i
def ri{ρ:Keyed->Int}{xs:Array Keyed}{i j:Nat}(a:j<=xs.size)(k:Nat):R ρ (mirror xs i j ((j-i) / 2)) k=if i<=k/\k<j then R ρ xs (i+j-1-k) else R ρ xs k:=by
 have e:=getElem?_mirror_all (i:=i) a k
 by_cases h1:i<=k/\k<j
 ·rw[if_pos h1] at e ⊢;exact gf e
 ·rw[if_neg h1] at e ⊢;exact gf e
def zU{ρ:Keyed->Int}{xs:Array Keyed}{i j:Nat}(c:j<=xs.size)(a:∀k,i<=k->k<j->R ρ xs k=R ρ xs (j-1))(k:Nat):R ρ (mirror xs i j ((j-i) / 2)) k=R ρ xs k:=by
 rw[ri c];split
 ·rw[a _ ω ω,a k ω ω]
 ·rfl
def xo{ρ:Keyed->Int}{xs:Array Keyed}{src d:Nat}(hs:src<xs.size)(hd:d<=src)(k:Nat):R ρ (bubble xs src d) k=if k=src-d then R ρ xs src else if src-d<k/\k<=src then R ρ xs (k-1) else R ρ xs k:=by
 have e:=getElem?_bubble hs d hd k
 by_cases h1:k=src-d
 ·rw[if_pos h1] at e ⊢;exact gf e
 ·rw[if_neg h1] at e ⊢
  by_cases h2:src-d<k/\k<=src
  ·rw[if_pos h2] at e ⊢;exact gf e
  ·rw[if_neg h2] at e ⊢;exact gf e
structure eR(prog:Program)(w:World)(A:Around)(s:Shared)(κ:SortKind)(a₀:Array Keyed)(ρ:Keyed->Int):Prop where
 lt:∀x y,x∈a₀.toList->y∈a₀.toList->∀(Q:Bool->Shared->Prop)(E:Ω),Q (decide (ρ x<ρ y)) s->wpAny (model prog w) A (keyLt' κ x.1 y.1) Q E s
structure B(κ:SortKind)(a₀:Array Keyed)(st:SortSt):Prop where
 perm:(arrOf st).Perm a₀
 kind:kindOf st=κ
 failed:failedOf st=none
def B.size{κ:SortKind}{a₀:Array Keyed}{st:SortSt}(h:B κ a₀ st):(arrOf st).size=a₀.size:=h.perm.size_eq
def B.setArr{κ:SortKind}{a₀:Array Keyed}{st:SortSt}(h:B κ a₀ st){xs:Array Keyed}(hp:xs.Perm (arrOf st)):B κ a₀ (setArr st xs):=⟨hp.trans h.perm,h.kind,h.failed⟩
def B.mem{κ:SortKind}{a₀:Array Keyed}{st:SortSt}(h:B κ a₀ st){p:Keyed}(hp:p∈(arrOf st).toList):p∈a₀.toList:=(Array.perm_iff_toList_perm.mp h.perm).mem_iff.mp hp
def rn{xs:Array Keyed}{i:Nat}(hi:i<xs.size):∃p,xs[i]?=some p/\p∈xs.toList:=⟨xs[i],getElem?_pos _ i hi,by simp⟩
structure Pre(lo:Nat)(st af:SortSt):Prop where
 arr:∀k,k<lo->(arrOf af)[k]?=(arrOf st)[k]?
 pend:AH af=AH st
def Pre.refl{lo:Nat}{st:SortSt}:Pre lo st st:=⟨fun _ _=>rfl,rfl⟩
def Pre.trans{lo:Nat}{a b c:SortSt}(x:Pre lo a b)(y:Pre lo b c):Pre lo a c:=⟨fun k h=>(y.arr k h).trans (x.arr k h),y.pend.trans x.pend⟩
def Pre.mir{lo i j:Nat}{st:SortSt}(a:j<=(arrOf st).size)(hi:lo<=i):Pre lo st (setArr st (mirror (arrOf st) i j ((j-i) / 2))):=
 ⟨fun k h=>by show(mirror _ _ _ _)[k]?=_;rw[getElem?_mirror_all a,if_neg ω],rfl⟩
def Pre.bub{lo src d:Nat}{st:SortSt}(hs:src<(arrOf st).size)(hd:d<=src)(a:lo<=src-d):Pre lo st (setArr st (bubble (arrOf st) src d)):=
 ⟨fun k h=>by show(bubble _ _ _)[k]?=_;rw[getElem?_bubble hs d hd,if_neg ω,if_neg ω],rfl⟩
section
variable{prog:Program}{w:World}{A:Around}{E:Ω}{s:Shared}{κ:SortKind}{a₀:Array Keyed}{ρ:Keyed->Int}
def kI(C:eR prog w A s κ a₀ ρ){st:SortSt}(a:B κ a₀ st){x y:Keyed}(hx:x∈a₀.toList)(hy:y∈a₀.toList){Q:Option Bool->SortSt->Prop}(h:Q (some (decide (ρ x<ρ y))) st):wpS (model prog w) A E s (lt' x y) Q st:=by
 rw[lt'_eq];refine wpS_bind (wpS_get ?_);rw[a.kind];refine wpS_bind (wpS_lift (wpAny_attempt (C.lt x y hx hy _ _ ⟨rfl,?_⟩)));exact wpS_pure h
def zk{st:SortSt}{xs:Array Keyed}{i:Nat}{p:Keyed}(h:xs[i]?=some p){Q:Keyed->SortSt->Prop}(hq:Q p st):wpS (model prog w) A E s (elem' xs i) Q st:=by
 rw[elem'_eq,h];exact wpS_pure hq
def kJ(C:eR prog w A s κ a₀ ρ){st:SortSt}(a:B κ a₀ st){i j:Nat}(hi:i<a₀.size)(d:j<a₀.size){Q:Option Bool->SortSt->Prop}(h:Q (some (decide (R ρ (arrOf st) i<R ρ (arrOf st) j))) st):wpS (model prog w) A E s (ltAt' i j) Q st:=by
 obtain⟨p,e1,c⟩:=rn (xs:=arrOf st) (i:=i) (by rw[a.size];exact hi);obtain⟨q,e2,m2⟩:=rn (xs:=arrOf st) (i:=j) (by rw[a.size];exact d);rw[ltAt'_eq];refine wpS_bind (wpS_get ?_);show wpS _ _ _ _ (do let x <-elem' (arrOf st) i;let y <-elem' (arrOf st) j;lt' x y) Q st;refine wpS_bind (zk e1 (wpS_bind (zk e2 (kI C a (a.mem c) (a.mem m2) ?_))));rw[aL e1,aL e2] at h;exact h
def asc(lo a c:Nat):StateT SortSt Sem AscSt:=
 forIn [a:c] ((none,a):AscSt) fun _ __s=>do
  let __x <-ltAt' (lo+__s.snd) (lo+__s.snd-1)
  match __x with
  |some smaller=>if smaller=true then pure (ForInStep.done (none,__s.snd)) else pure (ForInStep.yield (none,__s.snd+1))
  |_=>pure (ForInStep.done (some none,__s.snd))
def kL(lo n a:Nat):StateT SortSt Sem (Option Nat):=do
 reverseSlice' lo (lo+n)
 let __s <-asc lo n a
 match __s.fst with
 |some r=>pure r
 |none=>pure (some __s.snd)
def mQ(lo n a:Nat):StateT SortSt Sem DescSt:=
 forIn [n:a] ((none,n,0):DescSt) fun _ __s=>do
  let __x <-ltAt' (lo+__s.snd.fst) (lo+__s.snd.fst-1)
  match __x with
  |some smaller=>
   if smaller=true then
    if __s.snd.snd>0 then do
     reverseSlice' (lo+__s.snd.fst-(__s.snd.snd+1)) (lo+__s.snd.fst)
     pure (ForInStep.yield (none,__s.snd.fst+1,0))
    else pure (ForInStep.yield (none,__s.snd.fst+1,0))
   else do
    let __x <-ltAt' (lo+__s.snd.fst-1) (lo+__s.snd.fst)
    match __x with
    |some larger=>
     if larger=true then pure (ForInStep.done (none,__s.snd.fst,__s.snd.snd))
     else pure (ForInStep.yield (none,__s.snd.fst+1,__s.snd.snd+1))
    |_=>pure (ForInStep.done (some none,__s.snd.fst,__s.snd.snd))
  |_=>pure (ForInStep.done (some none,__s.snd.fst,__s.snd.snd))
def kN(lo n a:Nat):StateT SortSt Sem (Option Nat):=do
 liftM (rule "list.sort.descending-run")
 let __s <-mQ lo (n+1) a
 match __s.fst with
 |some r=>pure r
 |none=>
  if __s.snd.snd>0 then do
   reverseSlice' (lo+__s.snd.fst-(__s.snd.snd+1)) (lo+__s.snd.fst)
   kL lo __s.snd.fst a
  else kL lo __s.snd.fst a
def bt{c d:Type}{m:StateT SortSt Sem c}{f g:c->StateT SortSt Sem d}(h:∀a,f a=g a):(m >>= f)=(m >>= g):=by
 have e:f=g:=funext h;rw[e]
def DV(lo e:Nat):countRun' lo e=(do
  let __s <-asc lo 1 e
  match __s.fst with
  |some r=>pure r
  |none=>
   if(__s.snd==e)=true then pure (some __s.snd)
   else if __s.snd>1 then do
    let __x <-ltAt' lo (lo+__s.snd-1)
    match __x with
    |some rose=>if rose=true then pure (some __s.snd) else do
      reverseSlice' lo (lo+__s.snd)
      kN lo __s.snd e
    |_=>pure none
   else kN lo __s.snd e):=by
 rw[countRun'_eq];unfold kN kL mQ asc;refine bt fun h=>?_;obtain⟨r,n⟩:=h;cases r with
 |some r=>rfl
 |none=>
  dsimp only;split
  ·rfl
  ·split
   ·refine bt fun x=>?_
    cases x with
    |none=>rfl
    |some rose=>
     dsimp only;split
     ·rfl
     ·refine bt fun _r=>bt fun _u=>bt fun f=>?_
      obtain⟨d,n2,i⟩:=f;cases d with
      |some d=>rfl
      |none=>
       dsimp only;split
       ·refine bt fun _v=>bt fun _w=>bt fun a=>?_
        obtain⟨c,g⟩:=a;cases c<;>rfl
       ·refine bt fun _w=>bt fun a=>?_
        obtain⟨c,g⟩:=a;cases c<;>rfl
   ·refine bt fun _u=>bt fun f=>?_
    obtain⟨d,n2,i⟩:=f;cases d with
    |some d=>rfl
    |none=>
     dsimp only;split
     ·refine bt fun _v=>bt fun _w=>bt fun a=>?_
      obtain⟨c,g⟩:=a;cases c<;>rfl
     ·refine bt fun _w=>bt fun a=>?_
      obtain⟨c,g⟩:=a;cases c<;>rfl
def xp(C:eR prog w A s κ a₀ ρ){st:SortSt}{lo a e:Nat}{Q:AscSt->SortSt->Prop}(F:lo+e<=a₀.size)(G:1<=a)(v:a<=e)(y:B κ a₀ st)(hs:bu ρ (arrOf st) lo (lo+a))(h:∀n,a<=n->n<=e->bu ρ (arrOf st) lo (lo+n)->(n=e\/R ρ (arrOf st) (lo+n)<R ρ (arrOf st) (lo+n-1))->Q (none,n) st):wpS (model prog w) A E s (asc lo a e) Q st:=by
 unfold asc;refine wpS_forRange (I:=fun x c g=>g=st/\c=(none,x)/\bu ρ (arrOf st) lo (lo+x)) ?step ?fin ⟨rfl,rfl,hs⟩
 case fin=>
  rintro c g ⟨rfl,rfl,f⟩;rw[show max a e=e from ω] at f ⊢;exact h e v (Ag _) f (.inl rfl)
 case step=>
  rintro x c g u D ⟨rfl,rfl,f⟩;dsimp only;refine wpS_bind (kJ C y ω ω ?_)
  by_cases d:R ρ (arrOf g) (lo+x)<R ρ (arrOf g) (lo+x-1)
  ·simp only[d,decide_true,if_true]
   exact wpS_pure (h x u ω f (.inr d))
  ·simp only[d,decide_false,Ai,if_false]
   refine wpS_pure ⟨rfl,rfl,fun i j r l z=>?_⟩
   by_cases p:j<lo+x
   ·exact f i j r l p
   ·have o:j=lo+x:=ω
    subst o
    by_cases q:i=lo+x
    ·subst q;exact Int.le_refl _
    ·exact A8 (f i (lo+x-1) r ω ω) (Int.not_lt.mp d)
def mS{st:SortSt}{i j:Nat}{Q:Unit->SortSt->Prop}(h:Q () (setArr st (mirror (arrOf st) i j ((j-i) / 2)))):wpS (model prog w) A E s (reverseSlice' i j) Q st:=by
 rw[reverseSlice'_eq];exact wpS_modify h
abbrev Got(κ:SortKind)(a₀:Array Keyed)(ρ:Keyed->Int)(lo ar:Nat)(st:SortSt)(Q:Option Nat->SortSt->Prop):Prop:=
 ∀m af,B κ a₀ af->Pre lo st af->1<=m->m<=ar->bu ρ (arrOf af) lo (lo+m)->Q (some m) af
def xq(C:eR prog w A s κ a₀ ρ){st f:SortSt}{lo n a:Nat}{Q:Option Nat->SortSt->Prop}(p:lo+a<=a₀.size)(h1:1<=n)(d:n<=a)(g:B κ a₀ st)(q:Pre lo f st)(hs:js ρ (arrOf st) lo (lo+n))(h:Got κ a₀ ρ lo a f Q):wpS (model prog w) A E s (kL lo n a) Q st:=by
 unfold kL;have hsz:lo+n<=(arrOf st).size:=by rw[g.size];omega
 refine wpS_bind (mS ?_);have e:B κ a₀ (setArr st (mirror (arrOf st) lo (lo+n) ((lo+n-lo) / 2))):=g.setArr (mirror_perm _ _ _ _);refine wpS_bind (xp C p h1 d e ?_ fun m r l c _=>wpS_pure (h m _ e (q.trans (.mir hsz (Ag _))) ω l c));intro i j u o v;show R ρ (mirror (arrOf st) lo (lo+n) ((lo+n-lo) / 2)) i<=R ρ (mirror (arrOf st) lo (lo+n) ((lo+n-lo) / 2)) j;rw[ri hsz,ri hsz,if_pos ω,if_pos ω];exact hs _ _ ω ω ω
def DW(C:eR prog w A s κ a₀ ρ){st G:SortSt}{lo n v:Nat}{Q:DescSt->SortSt->Prop}(S:lo+v<=a₀.size)(h1:1<=n)(H:n<=v)(N:B κ a₀ st)(O:Pre lo G st)(hs:js ρ (arrOf st) lo (lo+n))(h:∀m f a,B κ a₀ a->Pre lo G a->n<=m->m<=v->js ρ (arrOf a) lo (lo+m)->f+1<=m->(∀i,lo+m-(f+1)<=i->i<lo+m->R ρ (arrOf a) i=R ρ (arrOf a) (lo+m-1))->Q (none,m,f) a):wpS (model prog w) A E s (mQ lo n v) Q st:=by
 unfold mQ;refine wpS_forRange (I:=fun x c a=>∃f,c=(none,x,f)/\B κ a₀ a/\Pre lo G a/\js ρ (arrOf a) lo (lo+x)/\f+1<=x/\
   (∀i,lo+x-(f+1)<=i->i<lo+x->R ρ (arrOf a) i=R ρ (arrOf a) (lo+x-1))) ?step ?fin ⟨0,rfl,N,O,hs,ω,fun i h1 h2=>by congr 1;omega⟩
 case fin=>
  rintro c a ⟨f,rfl,l,D,o,hq,he⟩;rw[show max n v=v from ω] at o hq he ⊢;exact h v f a l D H (Ag _) o hq he
 case step=>
  rintro x c a M P ⟨f,rfl,l,D,o,hq,he⟩;dsimp only;have hsz:lo+x<=(arrOf a).size:=by rw[l.size];omega
  refine wpS_bind (kJ C l ω ω ?_)
  by_cases e:R ρ (arrOf a) (lo+x)<R ρ (arrOf a) (lo+x-1)
  ·simp only[e,decide_true,if_true]
   have g:∀xs:Array Keyed,(∀k,R ρ xs k=R ρ (arrOf a) k)->js ρ xs lo (lo+(x+1)):=by
    intro xs hk i j F r L;rw[hk,hk]
    by_cases y:j<lo+x
    ·exact o i j F r y
    ·have u:j=lo+x:=ω
     subst u
     by_cases z:i=lo+x
     ·subst z;exact Int.le_refl _
     ·exact A8 (Int.le_of_lt e) (o i (lo+x-1) F ω ω)
   by_cases q:f>0
   ·rw[if_pos q]
    refine wpS_bind (mS (wpS_pure ⟨0,rfl,l.setArr (mirror_perm _ _ _ _),D.trans (.mir hsz ω),g _ (zU hsz he),ω,fun i h1 h2=>by congr 1;omega⟩))
   ·rw[if_neg q]
    exact wpS_pure ⟨0,rfl,l,D,g _ (fun _=>rfl),ω,fun i h1 h2=>by congr 1;omega⟩
  ·simp only[e,decide_false,Ai,if_false]
   refine wpS_bind (kJ C l ω ω ?_)
   by_cases d:R ρ (arrOf a) (lo+x-1)<R ρ (arrOf a) (lo+x)
   ·simp only[d,decide_true,if_true]
    exact wpS_pure (h x f a l D M ω o hq he)
   ·simp only[d,decide_false,Ai,if_false]
    have p:R ρ (arrOf a) (lo+x)=R ρ (arrOf a) (lo+x-1):=ω
    refine wpS_pure ⟨f+1,rfl,l,D,fun i j F r L=>?_,ω,fun i h1 h2=>?_⟩
    ·by_cases y:j<lo+x
     ·exact o i j F r y
     ·have u:j=lo+x:=ω
      subst u
      by_cases z:i=lo+x
      ·subst z;exact Int.le_refl _
      ·rw[p];exact o i (lo+x-1) F ω ω
    ·rw[show lo+(x+1)-1=lo+x from ω]
     by_cases J:i=lo+x
     ·subst J;rfl
     ·rw[p];exact he i ω ω
def xr(C:eR prog w A s κ a₀ ρ){st r:SortSt}{lo n c:Nat}{Q:Option Nat->SortSt->Prop}(g:lo+c<=a₀.size)(l:n+1<=c)(y:B κ a₀ st)(z:Pre lo r st)(hs:js ρ (arrOf st) lo (lo+(n+1)))(h:Got κ a₀ ρ lo c r Q):wpS (model prog w) A E s (kN lo n c) Q st:=by
 unfold kN;refine wpS_bind (wpS_lift (wpAny_rule ⟨rfl,?_⟩));refine wpS_bind (DW C g ω l y z hs fun m u d e o D p q hq he=>?_);dsimp only;have hsz:lo+m<=(arrOf d).size:=by rw[e.size];omega
 by_cases a:u>0
 ·rw[if_pos a]
  refine wpS_bind (mS (xq C g ω p (e.setArr (mirror_perm _ _ _ _)) (o.trans (.mir hsz ω)) ?_ h));intro i j v f x;show R ρ (mirror (arrOf d) _ _ _) j<=R ρ (mirror (arrOf d) _ _ _) i;rw[zU hsz he,zU hsz he];exact q i j v f x
 ·rw[if_neg a]
  exact xq C g ω p e o q h
def DX(C:eR prog w A s κ a₀ ρ){st:SortSt}{lo q:Nat}{Q:Option Nat->SortSt->Prop}(y:lo+q<=a₀.size)(h1:1<=q)(d:B κ a₀ st)(h:Got κ a₀ ρ lo q st Q):wpS (model prog w) A E s (countRun' lo q) Q st:=by
 rw[DV];refine wpS_bind (xp C y (Ag 1) h1 d (fun i j g l D=>by have:i=j:=ω;subst this;exact Int.le_refl _) fun n F G u H=>?_);dsimp only
 by_cases e:n=q
 ·rw[if_pos (by simpa using e)]
  exact wpS_pure (h n st d .refl F G u)
 ·rw[if_neg (by simpa using e)]
  have o:R ρ (arrOf st) (lo+n)<R ρ (arrOf st) (lo+n-1):=H.resolve_left e
  by_cases r:n>1
  ·rw[if_pos r]
   refine wpS_bind (kJ C d ω ω ?_)
   by_cases c:R ρ (arrOf st) lo<R ρ (arrOf st) (lo+n-1)
   ·simp only[c,decide_true,if_true]
    exact wpS_pure (h n st d .refl F G u)
   ·simp only[c,decide_false,Ai,if_false]
    have hsz:lo+n<=(arrOf st).size:=by rw[d.size];omega
    have a:∀k,lo<=k->k<lo+n->R ρ (arrOf st) k=R ρ (arrOf st) (lo+n-1):=by
     intro k g hk;have J:=u lo k ω g hk;have L:=u k (lo+n-1) g ω ω;omega
    refine wpS_bind (mS (xr C y ω (d.setArr (mirror_perm _ _ _ _)) (.mir hsz (Ag _)) ?_ h));intro i j g l D;show R ρ (mirror (arrOf st) _ _ _) j<=R ρ (mirror (arrOf st) _ _ _) i;rw[zU hsz a,zU hsz a]
    by_cases z:j<lo+n
    ·rw[a i ω ω,a j ω z];exact Int.le_refl _
    ·have v:j=lo+n:=ω
     subst v
     by_cases f:i=lo+n
     ·subst f;exact Int.le_refl _
     ·rw[a i ω ω];exact Int.le_of_lt o
  ·rw[if_neg r]
   have p:n=1:=ω
   subst p;refine xr C y ω d .refl ?_ h;intro i j g l D
   by_cases f:i=j
   ·subst f;exact Int.le_refl _
   ·have I:i=lo:=ω
    have x:j=lo+1:=ω
    subst I;subst x;exact Int.le_of_lt o
def DY(C:eR prog w A s κ a₀ ρ){st:SortSt}{lo n ok:Nat}{Q:Bool->SortSt->Prop}(S:lo+n<=a₀.size)(J:ok<=n)(L:B κ a₀ st)(hs:bu ρ (arrOf st) lo (lo+ok))(h:∀a,B κ a₀ a->Pre lo st a->bu ρ (arrOf a) lo (lo+n)->Q true a):wpS (model prog w) A E s (binarySort' lo n ok) Q st:=by
 rw[binarySort'_eq];refine wpS_bind (wpS_mono (wpS_forRange (I:=fun k c a=>c=(none,())/\B κ a₀ a/\Pre lo st a/\bu ρ (arrOf a) lo (lo+min k n))
  (Q:=fun c a=>c=(none,())/\B κ a₀ a/\Pre lo st a/\bu ρ (arrOf a) lo (lo+n)) ?step ?fin ?init) ?post)
 case post=>
  rintro c a ⟨rfl,g,u,f⟩;exact wpS_pure (h a g u f)
 case init=>
  refine⟨rfl,L,.refl,fun i j D q F=>?_⟩
  by_cases h1:ok=0
  ·have:i=j:=ω
   subst this;exact Int.le_refl _
  ·exact hs i j D q ω
 case fin=>
  rintro c a ⟨hc,g,u,f⟩;refine⟨hc,g,u,?_⟩
  rwa [show min (max (max ok 1) n) n=n from ω] at f
 case step=>
  rintro k c a M N ⟨rfl,g,u,f⟩;rw[show min k n=k from ω] at f;have hk:lo+k<a₀.size:=ω
  refine wpS_bind (wpS_mono (wpS_forRange (I:=fun x c e=>e=a/\∃l r,c=(none,l,r)/\l<=r/\r<=k/\r-l<=k-x/\
    (∀i,i<l->R ρ (arrOf a) (lo+i)<=R ρ (arrOf a) (lo+k))/\(∀i,r<=i->i<k->R ρ (arrOf a) (lo+k)<R ρ (arrOf a) (lo+i)))
   (Q:=fun c e=>e=a/\∃l r,c=(none,l,r)/\l<=k/\
    (∀i,i<l->R ρ (arrOf a) (lo+i)<=R ρ (arrOf a) (lo+k))/\(∀i,l<=i->i<k->R ρ (arrOf a) (lo+k)<R ρ (arrOf a) (lo+i))) ?istep ?ifin ?iinit) ?ipost)
  case iinit=>exact⟨rfl,0,k,rfl,ω,ω,ω,fun i hi=>ω,fun i h1 h2=>ω⟩
  case ifin=>
   rintro c e ⟨rfl,l,r,rfl,G,y,hm,o,p⟩;have:l=r:=ω
   subst this;exact⟨rfl,l,l,rfl,y,o,p⟩
  case istep=>
   rintro x c e _ O ⟨rfl,l,r,rfl,G,y,hm,o,p⟩;dsimp only
   by_cases v:l ≥ r
   ·rw[if_pos v]
    have:l=r:=ω
    subst this;exact wpS_pure ⟨rfl,l,l,rfl,y,o,p⟩
   ·rw[if_neg v]
    refine wpS_bind (kJ C g hk ω ?_)
    by_cases d:R ρ (arrOf e) (lo+k)<R ρ (arrOf e) (lo+(l+r) / 2)
    ·simp only[d,decide_true,if_true]
     refine wpS_pure ⟨rfl,l,(l+r) / 2,rfl,ω,ω,ω,o,fun i h1 h2=>?_⟩;exact Int.lt_of_lt_of_le d (f _ _ ω ω ω)
    ·simp only[d,decide_false,Ai,if_false]
     refine wpS_pure ⟨rfl,(l+r) / 2+1,r,rfl,ω,ω,ω,fun i h1=>?_,p⟩;exact A8 (f (lo+i) (lo+(l+r) / 2) ω ω ω) (Int.not_lt.mp d)
  case ipost=>
   rintro c e ⟨rfl,l,r,rfl,P,o,p⟩;show wpS _ _ _ _ (do moveDown' (lo+k) (lo+l);pure (ForInStep.yield (none,()))) _ _;rw[moveDown'_eq];have z:lo+k<(arrOf e).size:=by rw[g.size];exact hk
   refine wpS_bind (wpS_modify (wpS_pure ⟨rfl,g.setArr (bubble_perm _ _ _),u.trans (.bub z ω ω),?_⟩));rw[show min (k+1) n=k+1 from ω];intro i j D q F;show R ρ (bubble (arrOf e) (lo+k) (lo+k-(lo+l))) i<=R ρ (bubble (arrOf e) (lo+k) (lo+k-(lo+l))) j;rw[xo z ω,xo z ω,show lo+k-(lo+k-(lo+l))=lo+l from ω];have q1:∀i,lo<=i->i<lo+l->R ρ (arrOf e) i<=R ρ (arrOf e) (lo+k):=fun i h1 h2=>by
    have:=o (i-lo) ω;rwa [show lo+(i-lo)=i from ω] at this
   have H:∀i,lo+l<=i->i<lo+k->R ρ (arrOf e) (lo+k)<R ρ (arrOf e) i:=fun i h1 h2=>by
    have:=p (i-lo) ω ω;rwa [show lo+(i-lo)=i from ω] at this
   repeat' split
   all_goals first
    |(exfalso;omega)
    |exact Int.le_refl _
    |exact q1 _ ω ω
    |exact Int.le_of_lt (H _ ω ω)
    |exact f _ _ ω ω ω
def gD:Bool->Keyed->Array Keyed->Nat->Nat->Nat->StateT SortSt Sem (Option Nat):=sortPriv% PySem.Builtin.gallop
def bq(left:Bool)(k r:Int):Bool:=if left=true then decide (r<k) else !decide (k<r)
def DZ{left:Bool}{k r a:Int}(h:a<=r)(hb:bq left k r=true):bq left k a=true:=by
 unfold bq at *;cases left with
 |true=>simp at *;omega
 |false=>simp at *;omega
def mV(C:eR prog w A s κ a₀ ρ){st:SortSt}(a:B κ a₀ st){left:Bool}{key:Keyed}{arr:Array Keyed}{i:Nat}(hk:key∈a₀.toList)(c:∃p,arr[i]?=some p/\p∈a₀.toList){Q:Option Bool->SortSt->Prop}(h:Q (some (bq left (ρ key) (R ρ arr i))) st):wpS (model prog w) A E s (do
   let x <-elem' arr i
   if left=true then lt' x key
   else do
    let b <-lt' key x
    pure (Option.map (fun x=>!x) b)) Q st:=by
 obtain⟨p,e,hp⟩:=c;rw[aL e] at h;refine wpS_bind (zk e ?_);cases left with
 |true=>
  rw[if_pos rfl];exact kI C a hp hk h
 |false=>
  rw[if_neg Ax];exact wpS_bind (kI C a hk hp (wpS_pure h))
def zJ(C:eR prog w A s κ a₀ ρ){st:SortSt}(L:B κ a₀ st){left:Bool}{key:Keyed}{arr:Array Keyed}{base n hint:Nat}{Q:Option Nat->SortSt->Prop}(hk:key∈a₀.toList)(M:∀i,i<n->∃p,arr[base+i]?=some p/\p∈a₀.toList)(hs:∀i j,i<=j->j<n->R ρ arr (base+i)<=R ρ arr (base+j))(hh:hint<n)(h:∀k,k<=n->(∀i,i<k->bq left (ρ key) (R ρ arr (base+i))=true)->(∀i,k<=i->i<n->bq left (ρ key) (R ρ arr (base+i))=false)->Q (some k) st):wpS (model prog w) A E s (gD left key arr base n hint) Q st:=by
 have J:∀i j,i<=j->j<n->bq left (ρ key) (R ρ arr (base+j))=true->bq left (ρ key) (R ρ arr (base+i))=true:=fun i j h1 h2=>DZ (hs i j h1 h2);have O:∀i j,i<=j->j<n->bq left (ρ key) (R ρ arr (base+i))=false->bq left (ρ key) (R ρ arr (base+j))=false:=fun i j h1 h2 e=>by
  cases q:bq left (ρ key) (R ρ arr (base+j)) with
  |false=>rfl
  |true=>rw[J i j h1 h2 q] at e;cases e
 have F:∀(d:SortSt)(f:Nat->Option (Option Nat)×Nat×Nat->StateT SortSt Sem (ForInStep (Option (Option Nat)×Nat×Nat)))(lo hi:Nat),d=st->lo<=hi->hi<=n->(∀i,i<lo->bq left (ρ key) (R ρ arr (base+i))=true)->(∀i,hi<=i->i<n->bq left (ρ key) (R ρ arr (base+i))=false)->
   (∀x lo hi(G:ForInStep (Option (Option Nat)×Nat×Nat)->SortSt->Prop),(lo ≥ hi->G (.done (none,lo,hi)) st)->(lo<hi->hi<=n->G (.yield (if bq left (ρ key) (R ρ arr (base+(lo+(hi-lo) / 2)))=true then(none,lo+(hi-lo) / 2+1,hi) else(none,lo,lo+(hi-lo) / 2))) st)->hi<=n->wpS (model prog w) A E s (f x (none,lo,hi)) G st)->
   wpS (model prog w) A E s (forIn [0:n] (none,lo,hi) f) (fun c d=>d=st/\c.1=none/\Q (some c.2.2) st) d:=by
  intro d f lo hi P h1 h2 S T hf;subst P;refine wpS_forRange (I:=fun x c H=>H=d/\∃l r,c=(none,l,r)/\l<=r/\r<=n/\r-l<=n-x/\(∀i,i<l->bq left (ρ key) (R ρ arr (base+i))=true)/\(∀i,r<=i->i<n->bq left (ρ key) (R ρ arr (base+i))=false)) ?step ?fin ⟨rfl,lo,hi,rfl,h1,h2,ω,S,T⟩
  case fin=>
   rintro c H ⟨rfl,l,r,rfl,u,D,v,g,z⟩;have:l=r:=ω
   subst this;exact⟨rfl,rfl,h l D g z⟩
  case step=>
   rintro x c H _ hx ⟨rfl,l,r,rfl,u,D,v,g,z⟩;refine hf x l r _ (fun a=>?_) (fun U hr=>?_) D
   ·have:l=r:=ω
    subst this;exact⟨rfl,rfl,h l D g z⟩
   ·cases q:bq left (ρ key) (R ρ arr (base+(l+(r-l) / 2))) with
    |true=>exact⟨rfl,_,_,by rw[if_pos rfl],ω,ω,ω,fun i hi=>J i _ ω ω q,z⟩
    |false=>exact⟨rfl,_,_,by rw[if_neg Ax],ω,ω,ω,g,fun i h1 h2=>O _ i h1 h2 q⟩
 have body:∀(x lo hi:Nat)(G:ForInStep (Option (Option Nat)×Nat×Nat)->SortSt->Prop),(lo ≥ hi->G (.done (none,lo,hi)) st)->(lo<hi->hi<=n->G (.yield (if bq left (ρ key) (R ρ arr (base+(lo+(hi-lo) / 2)))=true then(none,lo+(hi-lo) / 2+1,hi) else(none,lo,lo+(hi-lo) / 2))) st)->hi<=n->
   wpS (model prog w) A E s (if lo ≥ hi then pure (ForInStep.done (none,lo,hi)) else(do
    let x <-elem' arr (base+(lo+(hi-lo) / 2))
    if left=true then lt' x key
    else do
     let b <-lt' key x
     pure (Option.map (fun x=>!x) b)) >>= fun y=>match y with
    |some more=>if more=true then pure (ForInStep.yield (none,lo+(hi-lo) / 2+1,hi)) else pure (ForInStep.yield (none,lo,lo+(hi-lo) / 2))
    |x=>pure (ForInStep.done (some none,lo,hi))) G st:=by
  intro x lo hi G q1 W X
  by_cases a:lo ≥ hi
  ·rw[if_pos a]
   exact wpS_pure (q1 a)
  ·rw[if_neg a]
   have q:=W ω X;refine wpS_bind (mV C L hk (M _ ω) ?_);cases e:bq left (ρ key) (R ρ arr (base+(lo+(hi-lo) / 2))) with
   |true=>
    rw[e,if_pos rfl] at q;simp only[if_true];exact wpS_pure q
   |false=>
    rw[e,if_neg Ax] at q;simp only[Ai,if_false];exact wpS_pure q
 refine wpS_bind ?_;refine mV C L hk (M hint hh) ?_;cases right:bq left (ρ key) (R ρ arr (base+hint)) with
 |true=>
  dsimp only;rw[if_pos rfl];refine wpS_bind (wpS_mono (wpS_forRange (I:=fun x c d=>d=st/\∃l o,c=(none,l,o)/\l<o/\x+1<=o/\hint+l<n/\bq left (ρ key) (R ρ arr (base+(hint+l)))=true)
   (Q:=fun c d=>d=st/\∃l o,c=(none,l,o)/\l<o/\hint+l<n/\bq left (ρ key) (R ρ arr (base+(hint+l)))=true/\(n-hint<=o\/(hint+o<n/\bq left (ρ key) (R ρ arr (base+(hint+o)))=false))) ?step ?fin ⟨rfl,0,1,rfl,ω,ω,ω,right⟩) ?post)
  case fin=>
   rintro c d ⟨rfl,l,o,rfl,u,D,v,g⟩;exact⟨rfl,l,o,rfl,u,v,g,.inl ω⟩
  case step=>
   rintro x c d _ hx ⟨rfl,l,o,rfl,u,D,v,g⟩;dsimp only
   by_cases a:o ≥ n-hint
   ·rw[if_pos a]
    exact wpS_pure ⟨rfl,l,o,rfl,u,v,g,.inl a⟩
   ·rw[if_neg a]
    refine wpS_bind (mV C L hk (M _ ω) ?_);cases e:bq left (ρ key) (R ρ arr (base+(hint+o))) with
    |true=>
     simp only[Bool.not_true,Ai,if_false];exact wpS_pure ⟨rfl,o,2*o+1,rfl,ω,ω,ω,e⟩
    |false=>
     simp only[Bool.not_false,if_true];exact wpS_pure ⟨rfl,l,o,rfl,u,v,g,.inr ⟨ω,e⟩⟩
  case post=>
   rintro c d ⟨rfl,l,o,rfl,u,v,g,z⟩;dsimp only;refine wpS_bind (wpS_mono (F _ _ _ _ rfl ω ω (fun i hi=>J i _ ω ω g) (fun i h1 h2=>?_) body) ?fin2)
   case fin2=>rintro⟨Y,Z,c3⟩ H ⟨rfl,e,q⟩;dsimp only at e q ⊢;subst e;exact wpS_pure q
   rcases z with z|⟨z,N⟩
   ·omega
   ·exact O _ i ω h2 N
 |false=>
  dsimp only;rw[if_neg Ax];refine wpS_bind (wpS_mono (wpS_forRange (I:=fun x c d=>d=st/\∃l o,c=(none,l,o)/\l<o/\x+1<=o/\l<=hint/\bq left (ρ key) (R ρ arr (base+(hint-l)))=false)
   (Q:=fun c d=>d=st/\∃l o,c=(none,l,o)/\l<o/\l<=hint/\bq left (ρ key) (R ρ arr (base+(hint-l)))=false/\(hint+1<=o\/(o<=hint/\bq left (ρ key) (R ρ arr (base+(hint-o)))=true))) ?step ?fin ⟨rfl,0,1,rfl,ω,ω,ω,right⟩) ?post)
  case fin=>
   rintro c d ⟨rfl,l,o,rfl,u,D,v,g⟩;exact⟨rfl,l,o,rfl,u,v,g,.inl ω⟩
  case step=>
   rintro x c d _ hx ⟨rfl,l,o,rfl,u,D,v,g⟩;dsimp only
   by_cases a:o ≥ hint+1
   ·rw[if_pos a]
    exact wpS_pure ⟨rfl,l,o,rfl,u,v,g,.inl a⟩
   ·rw[if_neg a]
    refine wpS_bind (mV C L hk (M _ ω) ?_);cases e:bq left (ρ key) (R ρ arr (base+(hint-o))) with
    |true=>
     simp only[if_true];exact wpS_pure ⟨rfl,l,o,rfl,u,v,g,.inr ⟨ω,e⟩⟩
    |false=>
     simp only[Ai,if_false];exact wpS_pure ⟨rfl,o,2*o+1,rfl,ω,ω,ω,e⟩
  case post=>
   rintro c d ⟨rfl,l,o,rfl,u,v,g,z⟩;dsimp only;refine wpS_bind (wpS_mono (F _ _ _ _ rfl ω ω (fun i hi=>?_) (fun i h1 h2=>O _ i ω h2 g) body) ?fin2)
   case fin2=>rintro⟨Y,Z,c3⟩ H ⟨rfl,e,q⟩;dsimp only at e q ⊢;subst e;exact wpS_pure q
   rcases z with z|⟨z,N⟩
   ·omega
   ·exact J i _ ω ω N
end
abbrev Le(ρ:Keyed->Int)(l:List Keyed):Prop:=l.Pairwise fun x y=>ρ x<=ρ y
structure MI(ρ:Keyed->Int)(la lb out ra rb:List Keyed):Prop where
 perm:(out++(ra++rb)).Perm (la++lb)
 so:Le ρ out
 sa:Le ρ ra
 sb:Le ρ rb
 oa:∀x∈out,∀y∈ra,ρ x<=ρ y
 ob:∀x∈out,∀y∈rb,ρ x<=ρ y
def MI.takeA{ρ:Keyed->Int}{e f out blk g a:List Keyed}(h:MI ρ e f out (blk++g) a)(hb:∀x∈blk,∀y∈a,ρ x<=ρ y):MI ρ e f (out++blk) g a:=by
 obtain⟨p,i,j,l,d,o⟩:=h;have c:=List.pairwise_append.mp j;refine⟨by simpa[AY] using p,List.pairwise_append.mpr ⟨i,c.1,fun x hx y hy=>d x hx y (A9 _ hy)⟩,c.2.1,l,fun x hx y hy=>?_,fun x hx y hy=>?_⟩
 ·rcases List.mem_append.mp hx with hx|hx
  ·exact d x hx y (AB _ hy)
  ·exact c.2.2 x hx y hy
 ·rcases List.mem_append.mp hx with hx|hx
  ·exact o x hx y hy
  ·exact hb x hx y hy
def MI.takeB{ρ:Keyed->Int}{e f out blk a g:List Keyed}(h:MI ρ e f out a (blk++g))(hb:∀x∈blk,∀y∈a,ρ x<=ρ y):MI ρ e f (out++blk) a g:=by
 obtain⟨p,i,j,l,o,d⟩:=h;have c:=List.pairwise_append.mp l;refine⟨?_,List.pairwise_append.mpr ⟨i,c.1,fun x hx y hy=>d x hx y (A9 _ hy)⟩,j,c.2.1,fun x hx y hy=>?_,fun x hx y hy=>?_⟩
 ·refine List.Perm.trans ?_ p
  rw[AY];refine List.Perm.append_left _ ?_;rw[<-AY,<-AY];exact List.Perm.append_right _ List.perm_append_comm
 ·rcases List.mem_append.mp hx with hx|hx
  ·exact o x hx y hy
  ·exact hb x hx y hy
 ·rcases List.mem_append.mp hx with hx|hx
  ·exact d x hx y (AB _ hy)
  ·exact c.2.2 x hx y hy
def MI.doneA{ρ:Keyed->Int}{d f out c a:List Keyed}(h:MI ρ d f out c a)(e:a=[]):((out++c)++a).Perm (d++f)/\Le ρ ((out++c)++a):=by
 subst e;refine⟨by simpa[AY] using h.perm,?_⟩;rw[List.append_nil];exact List.pairwise_append.mpr ⟨h.so,h.sa,h.oa⟩
def MI.lastA{ρ:Keyed->Int}{d e out c a:List Keyed}(h:MI ρ d e out c a)(f:∀x∈a,∀y∈c,ρ x<=ρ y):((out++a)++c).Perm (d++e)/\Le ρ ((out++a)++c):=by
 have h2:=(show MI ρ d e out c (a++[]) by rw[List.append_nil];exact h).takeB f;refine⟨by simpa using h2.perm,List.pairwise_append.mpr ⟨h2.so,h2.sa,h2.oa⟩⟩
def xt{xs:Array Keyed}{i:Nat}{p:Keyed}(h:xs[i]?=some p):xs.toList.drop i=[p]++xs.toList.drop (i+1):=by
 have h':xs.toList[i]?=some p:=by simpa using h
 obtain⟨hi,e⟩:=List.getElem?_eq_some_iff.mp h';rw[List.drop_eq_getElem_cons hi,e]
 rfl
def mW{xs:Array Keyed}(i k:Nat):xs.toList.drop i=(xs.extract i (i+k)).toList++xs.toList.drop (i+k):=by
 rw[Array.toList_extract,List.extract_eq_drop_take,Nat.add_sub_cancel_left,<-List.drop_drop,AX]
def zC{xs:Array Keyed}{i:Nat}{y:Keyed}(h:y∈xs.toList.drop i):∃j,i+j<xs.size/\xs[i+j]?=some y:=by
 obtain⟨j,a,e⟩:=List.mem_iff_getElem.mp h;rw[List.length_drop,Af] at a;refine⟨j,ω,?_⟩;rw[List.getElem_drop] at e;rw[getElem?_pos xs (i+j) ω,<-e];simp
def jt{xs:Array Keyed}{i k:Nat}{y:Keyed}(h:y∈(xs.extract i (i+k)).toList):∃j,j<k/\i+j<xs.size/\xs[i+j]?=some y:=by
 obtain⟨j,a,e⟩:=List.mem_iff_getElem.mp h;rw[Af,Array.size_extract] at a;refine⟨j,ω,ω,?_⟩;rw[getElem?_pos xs (i+j) ω,<-e];simp
def mZ(xs:Array Keyed)(i:Nat):(xs.extract i).toList=xs.toList.drop i:=by
 rw[Array.toList_extract,List.extract_eq_drop_take,At (by simp)]
def at_of{xs:Array Keyed}{i:Nat}(h:i<xs.size):∃p,xs[i]?=some p:=⟨xs[i],getElem?_pos _ i h⟩
def zy{xs:Array Keyed}{i:Nat}{p:Keyed}(h:xs[i]?=some p):p∈xs.toList:=by
 obtain⟨hi,rfl⟩:=Array.getElem?_eq_some_iff.mp h;simp
def de{ρ:Keyed->Int}{xs:Array Keyed}(hs:Le ρ xs.toList){i j:Nat}{p q:Keyed}(h1:xs[i]?=some p)(h2:xs[j]?=some q)(a:i<=j):ρ p<=ρ q:=by
 obtain⟨hi,rfl⟩:=Array.getElem?_eq_some_iff.mp h1;obtain⟨c,rfl⟩:=Array.getElem?_eq_some_iff.mp h2;rcases Nat.lt_or_eq_of_le a with h|h
 ·have:=List.pairwise_iff_getElem.mp hs i j (by simpa using hi) (by simpa using c) h
  simpa using this
 ·subst h;exact Int.le_refl _
def cK{ρ:Keyed->Int}{xs:Array Keyed}(hs:Le ρ xs.toList){i j:Nat}(a:i<=j)(c:j<xs.size):R ρ xs i<=R ρ xs j:=by
 obtain⟨p,e1⟩:=at_of (xs:=xs) (i:=i) ω;obtain⟨q,e2⟩:=at_of c;rw[aL e1,aL e2];exact de hs e1 e2 a
structure Sm(st af:SortSt):Prop where
 arr:arrOf af=arrOf st
 pend:AH af=AH st
 kind:kindOf af=kindOf st
 failed:failedOf af=failedOf st
def Sm.refl{st:SortSt}:Sm st st:=⟨rfl,rfl,rfl,rfl⟩
def Sm.trans{a b c:SortSt}(x:Sm a b)(y:Sm b c):Sm a c:=⟨y.arr.trans x.arr,y.pend.trans x.pend,y.kind.trans x.kind,y.failed.trans x.failed⟩
def Sm.b{κ:SortKind}{a₀:Array Keyed}{st a:SortSt}(x:Sm st a)(h:B κ a₀ st):B κ a₀ a:=⟨by rw[x.arr];exact h.perm,x.kind.trans h.kind,x.failed.trans h.failed⟩
def D0:Nat->StateT SortSt Sem Unit:=sortPriv% PySem.Builtin.setMinGallop
def D3:Array Keyed->Array Keyed->StateT SortSt Sem (Array Keyed):=sortPriv% PySem.Builtin.mergeLo
def D4:Array Keyed->Array Keyed->StateT SortSt Sem (Array Keyed):=sortPriv% PySem.Builtin.mergeHi
section
variable{prog:Program}{w:World}{A:Around}{E:Ω}{s:Shared}{κ:SortKind}{a₀:Array Keyed}{ρ:Keyed->Int}
def ju{st:SortSt}{g:Nat}{Q:Unit->SortSt->Prop}(h:∀a,Sm st a->Q () a):wpS (model prog w) A E s (D0 g) Q st:=by
 refine wpS_modify (h _ ?_);exact⟨rfl,rfl,rfl,rfl⟩
abbrev bQ(ρ:Keyed->Int)(a b:Array Keyed)(st:SortSt)(r:Array Keyed)(af:SortSt):Prop:=Sm st af/\r.toList.Perm (a.toList++b.toList)/\Le ρ r.toList
structure Jn(ρ:Keyed->Int)(a b:Array Keyed)(out:Array Keyed)(ia ib:Nat):Prop where
 mi:MI ρ a.toList b.toList out.toList (a.toList.drop ia) (b.toList.drop ib)
 la:ia+1<a.size
 lb:ib<b.size
def MI.pushB{ρ:Keyed->Int}{a b out:Array Keyed}{c d:Nat}{y:Keyed}(h:MI ρ a.toList b.toList out.toList (a.toList.drop c) (b.toList.drop d))(e:b[d]?=some y)(hy:∀x∈a.toList.drop c,ρ y<=ρ x):MI ρ a.toList b.toList (out.push y).toList (a.toList.drop c) (b.toList.drop (d+1)):=by
 rw[xt e] at h;rw[Array.toList_push];exact h.takeB fun x hx z f=>by rw[List.mem_singleton.mp hx];exact hy z f
def MI.pushA{ρ:Keyed->Int}{a b out:Array Keyed}{d c:Nat}{x:Keyed}(h:MI ρ a.toList b.toList out.toList (a.toList.drop d) (b.toList.drop c))(e:a[d]?=some x)(hy:∀y∈b.toList.drop c,ρ x<=ρ y):MI ρ a.toList b.toList (out.push x).toList (a.toList.drop (d+1)) (b.toList.drop c):=by
 rw[xt e] at h;rw[Array.toList_push];exact h.takeA fun z f y g=>by rw[List.mem_singleton.mp f];exact hy y g
def MI.blkA{ρ:Keyed->Int}{a b out:Array Keyed}{c d:Nat}(k:Nat)(h:MI ρ a.toList b.toList out.toList (a.toList.drop c) (b.toList.drop d))(hy:∀x∈(a.extract c (c+k)).toList,∀y∈b.toList.drop d,ρ x<=ρ y):MI ρ a.toList b.toList (out++a.extract c (c+k)).toList (a.toList.drop (c+k)) (b.toList.drop d):=by
 rw[mW c k] at h;rw[A7];exact h.takeA hy
def MI.blkB{ρ:Keyed->Int}{a b out:Array Keyed}{d c:Nat}(k:Nat)(h:MI ρ a.toList b.toList out.toList (a.toList.drop d) (b.toList.drop c))(hy:∀x∈(b.extract c (c+k)).toList,∀y∈a.toList.drop d,ρ x<=ρ y):MI ρ a.toList b.toList (out++b.extract c (c+k)).toList (a.toList.drop d) (b.toList.drop (c+k)):=by
 rw[mW c k] at h;rw[A7];exact h.takeB hy
def MI.fin{ρ:Keyed->Int}{a b out:Array Keyed}{d c:Nat}(h:MI ρ a.toList b.toList out.toList (a.toList.drop d) (b.toList.drop c))(e:b.size<=c):(out++a.extract d++b.extract c).toList.Perm (a.toList++b.toList)/\Le ρ (out++a.extract d++b.extract c).toList:=by
 rw[A7,A7,mZ,mZ];exact h.doneA (List.drop_eq_nil_of_le (by simpa using e))
def MI.finL{ρ:Keyed->Int}{a b out:Array Keyed}{d c:Nat}(h:MI ρ a.toList b.toList out.toList (a.toList.drop d) (b.toList.drop c))(e:∀x∈b.toList.drop c,∀y∈a.toList.drop d,ρ x<=ρ y):(out++b.extract c++a.extract d).toList.Perm (a.toList++b.toList)/\Le ρ (out++b.extract c++a.extract d).toList:=by
 rw[A7,A7,mZ,mZ];exact h.lastA e
def D7(C:eR prog w A s κ a₀ ρ){st:SortSt}(hB:B κ a₀ st){a b:Array Keyed}{Q:Array Keyed->SortSt->Prop}(ha:∀p∈a.toList,p∈a₀.toList)(hb:∀p∈b.toList,p∈a₀.toList)(sa:Le ρ a.toList)(sb:Le ρ b.toList)(na:1<=a.size)(nb:1<=b.size)(h0:∀x∈a.toList,∀y,b[0]?=some y->ρ y<=ρ x)(hz:∀z,a[a.size-1]?=some z->∀y∈b.toList,ρ y<ρ z)(h:∀r G,bQ ρ a b st r G->Q r G):wpS (model prog w) A E s (D3 a b) Q st:=by
 obtain⟨z,ez⟩:=at_of (xs:=a) (i:=a.size-1) ω;have aR:∀i j,a.size<=i+1->∀x∈b.toList.drop j,∀y∈a.toList.drop i,ρ x<=ρ y:=fun i j hi x hx y hy=>by
  obtain⟨k,k1,k2⟩:=zC hy;rw[show i+k=a.size-1 from ω,ez] at k2;cases k2;exact Int.le_of_lt (hz _ ez x (List.mem_of_mem_drop hx))
 refine wpS_bind (wpS_lift (wpAny_rule ⟨rfl,?_⟩));obtain⟨y0,e0⟩:=at_of (xs:=b) (i:=0) ω;refine wpS_bind (zk e0 ?_);have M0:MI ρ a.toList b.toList (#[y0]:Array Keyed).toList (a.toList.drop 0) (b.toList.drop 1):=by
  have q:MI ρ a.toList b.toList (#[]:Array Keyed).toList (a.toList.drop 0) (b.toList.drop 0):=⟨by simp,by simp,by simpa using sa,by simpa using sb,by simp,by simp⟩;exact q.pushB e0 fun x hx=>h0 x (by simpa using hx) y0 e0
 dsimp only
 by_cases c1:(1==b.size)=true
 ·rw[if_pos c1]
  have c1':1=b.size:=by simpa using c1
  exact wpS_pure (h _ _ ⟨.refl,M0.fin ω⟩)
 rw[if_neg c1];have c1':1≠b.size:=by simpa using c1
 by_cases c2:(0+1==a.size)=true
 ·rw[if_pos c2]
  have c2':0+1=a.size:=by simpa using c2
  exact wpS_pure (h _ _ ⟨.refl,M0.finL (aR 0 1 ω)⟩)
 rw[if_neg c2];have c2':0+1≠a.size:=by simpa using c2
 refine wpS_bind (wpS_get ?_);refine wpS_bind (wpS_mono (wpS_forRange (I:=fun x c G=>Sm st G/\∃out ia ib mg,c=(none,out,ia,ib,mg)/\Jn ρ a b out ia ib/\x+1<=ia+ib)
  (Q:=fun c G=>∃r,c.1=some r/\bQ ρ a b st r G) ?step ?fin ⟨.refl,_,0,1,_,rfl,⟨M0,ω,ω⟩,ω⟩) ?post)
 case post=>
  rintro⟨c1,c2⟩ G ⟨r,e,q⟩;dsimp only at e ⊢;subst e;exact wpS_pure (h _ _ q)
 case fin=>
  rintro c G ⟨_,out,ia,ib,mg,_,J,hx⟩;have:=J.la;have:=J.lb;omega
 case step=>
  rintro x c gX _ hx ⟨S1,out,ia,ib,mg,rfl,J,hp⟩;dsimp only;refine wpS_bind (wpS_mono (wpS_forRange (I:=fun t c G=>G=gX/\∃out W X ac bc,c=(none,out,W,X,ac,bc)/\Jn ρ a b out W X/\ia+ib+t<=W+X)
   (Q:=fun c G=>G=gX/\((∃r,c.1=some r/\bQ ρ a b st r G)\/∃out W X ac bc,c=(none,out,W,X,ac,bc)/\Jn ρ a b out W X/\ia+ib+1<=W+X)) ?istep ?ifin ⟨rfl,_,_,_,_,_,rfl,J,ω⟩) ?ipost)
  case ifin=>
   rintro c G ⟨rfl,out,W,X,ac,bc,rfl,J',bz⟩;exact⟨rfl,.inr ⟨_,_,_,_,_,rfl,J',ω⟩⟩
  case istep=>
   rintro t c G _ ht ⟨rfl,out,W,X,ac,bc,rfl,J',bz⟩;dsimp only;obtain⟨y,M⟩:=at_of J'.lb;obtain⟨x,ex⟩:=at_of (Nat.lt_of_succ_lt J'.la);have jT:=J'.la;have lc:=J'.lb;refine wpS_bind (zk M (wpS_bind (zk ex (wpS_bind (kI C (S1.b hB) (hb _ (zy M)) (ha _ (zy ex)) ?_)))))
   by_cases N:ρ y<ρ x
   ·simp only[N,decide_true,if_true]
    refine wpS_bind (zk M ?_);have M1:=J'.mi.pushB M fun u hu=>by
     obtain⟨j,j1,j2⟩:=zC hu;exact A8 (Int.le_of_lt N) (de sa ex j2 ω)
    by_cases O:(X+1==b.size)=true
    ·rw[if_pos O]
     have Y:X+1=b.size:=by simpa using O
     exact wpS_pure ⟨rfl,.inl ⟨_,rfl,S1,M1.fin ω⟩⟩
    ·rw[if_neg O]
     have Y:X+1≠b.size:=by simpa using O
     split
     ·exact wpS_pure ⟨rfl,.inr ⟨_,_,_,_,_,rfl,⟨M1,J'.la,ω⟩,ω⟩⟩
     ·exact wpS_pure ⟨rfl,_,_,_,_,_,rfl,⟨M1,J'.la,ω⟩,ω⟩
   ·simp only[N,decide_false,Ai,if_false]
    refine wpS_bind (zk ex ?_);have M1:=J'.mi.pushA ex fun u hu=>by
     obtain⟨j,j1,j2⟩:=zC hu;exact A8 (Int.not_lt.mp N) (de sb M j2 ω)
    by_cases O:(W+1+1==a.size)=true
    ·rw[if_pos O]
     have Y:W+1+1=a.size:=by simpa using O
     exact wpS_pure ⟨rfl,.inl ⟨_,rfl,S1,M1.finL (aR _ _ ω)⟩⟩
    ·rw[if_neg O]
     have Y:W+1+1≠a.size:=by simpa using O
     split
     ·exact wpS_pure ⟨rfl,.inr ⟨_,_,_,_,_,rfl,⟨M1,ω,J'.lb⟩,ω⟩⟩
     ·exact wpS_pure ⟨rfl,_,_,_,_,_,rfl,⟨M1,ω,J'.lb⟩,ω⟩
  case ipost=>
   rintro⟨c1,c2⟩ G ⟨rfl,⟨r,e,q⟩|⟨out,W,X,ac,bc,e,J',bz⟩⟩
   ·dsimp only at e ⊢
    subst e;exact wpS_pure ⟨r,rfl,q⟩
   ·cases e
    dsimp only;refine wpS_bind (wpS_lift (wpAny_rule ⟨rfl,?_⟩));refine wpS_bind (wpS_mono (wpS_forRange (I:=fun t c G=>Sm st G/\∃out aU aV mg ac bc,c=(none,out,aU,aV,mg,ac,bc)/\Jn ρ a b out aU aV/\W+X<=aU+aV)
     (Q:=fun c G=>((∃r,c.1=some r/\bQ ρ a b st r G)\/Sm st G/\∃out aU aV mg ac bc,c=(none,out,aU,aV,mg,ac,bc)/\Jn ρ a b out aU aV/\W+X<=aU+aV)) ?gstep ?gfin ⟨S1,_,_,_,_,_,_,rfl,J',Ag _⟩) ?gpost)
    case gfin=>
     rintro c G q;exact .inr q
    case gpost=>
     rintro⟨c1,c2⟩ G (⟨r,e,q⟩|⟨S2,out,aU,aV,mg,ac,bc,e,J2,cD⟩)
     ·dsimp only at e ⊢
      subst e;exact wpS_pure ⟨r,rfl,q⟩
     ·cases e
      dsimp only;exact wpS_bind (ju fun aG g=>wpS_pure ⟨S2.trans g,_,_,_,_,rfl,J2,ω⟩)
    case gstep=>
     rintro t c a_ _ ht ⟨S2,out,i,j,mg,ac,bc,rfl,J2,cD⟩;dsimp only;have p8:=J2.la;have uy:=J2.lb;obtain⟨y,M⟩:=at_of J2.lb
     by_cases hm:mg>1
     ·rw[if_pos hm]
      refine wpS_bind (ju fun aG g=>?_);refine wpS_bind (zk M ?_);refine wpS_bind (zJ C ((S2.trans g).b hB) (hb _ (zy M)) (fun k hk=>?_) (fun k l h1 h2=>cK sa ω ω) ω fun k k1 k2 k3=>?_)
      ·obtain⟨p,e⟩:=at_of (xs:=a) (i:=i+k) ω
       exact⟨p,e,ha _ (zy e)⟩
      dsimp only;have kz:i+k<a.size:=by
       rcases Nat.lt_or_ge (i+k) a.size with q|q
       ·exact q
       ·have q1:=k2 (a.size-1-i) ω
        rw[show i+(a.size-1-i)=a.size-1 from ω,aL ez] at q1;have q2:=hz _ ez y (zy M);simp[bq] at q1;omega
      have after:∀x∈a.toList.drop (i+k),ρ y<=ρ x:=fun u hu=>by
       obtain⟨d,T,U⟩:=zC hu;have q1:=k3 (k+d) ω ω;rw[show i+(k+d)=i+k+d from ω,aL U] at q1;simp[bq] at q1;omega
      by_cases hk0:k>0
      ·rw[if_pos hk0]
       have MB:=J2.mi.blkA k fun u hu v hv=>by
        obtain⟨d,T,U,d3⟩:=jt hu;obtain⟨f,f1,f2⟩:=zC hv;have q1:=k2 d T;rw[aL d3] at q1;simp[bq] at q1;exact A8 q1 (de sb M f2 ω)
       by_cases O:(i+k+1==a.size)=true
       ·rw[if_pos O]
        have Y:i+k+1=a.size:=by simpa using O
        exact wpS_pure (.inl ⟨_,rfl,S2.trans g,MB.finL (aR _ _ ω)⟩)
       rw[if_neg O];have Y:i+k+1≠a.size:=by simpa using O
       rw[if_neg (show ¬(i+k==a.size)=true by simp;omega)];refine wpS_bind (zk M ?_);have M2:=MB.pushB M after
       by_cases P:(j+1==b.size)=true
       ·rw[if_pos P]
        have Z:j+1=b.size:=by simpa using P
        exact wpS_pure (.inl ⟨_,rfl,S2.trans g,M2.fin ω⟩)
       rw[if_neg P];have Z:j+1≠b.size:=by simpa using P
       obtain⟨x,ex⟩:=at_of (xs:=a) (i:=i+k) ω;refine wpS_bind (zk ex ?_);refine wpS_bind (zJ C ((S2.trans g).b hB) (ha _ (zy ex)) (fun l hl=>?_) (fun l m h1 h2=>cK sb ω ω) ω fun l l1 l2 l3=>?_)
       ·obtain⟨p,e⟩:=at_of (xs:=b) (i:=j+1+l) ω
        exact⟨p,e,hb _ (zy e)⟩
       dsimp only;have D:∀y∈b.toList.drop (j+1+l),ρ x<=ρ y:=fun u hu=>by
        obtain⟨d,T,U⟩:=zC hu;have q1:=l3 (l+d) ω ω;rw[show j+1+(l+d)=j+1+l+d from ω,aL U] at q1;simp[bq] at q1;omega
       by_cases H:l>0
       ·rw[if_pos H]
        have M3:=M2.blkB l fun u hu v hv=>by
         obtain⟨d,T,U,d3⟩:=jt hu;obtain⟨f,f1,f2⟩:=zC hv;have q1:=l2 d T;rw[aL d3] at q1;simp[bq] at q1;exact A8 (Int.le_of_lt q1) (de sa ex f2 ω)
        by_cases S:(j+1+l==b.size)=true
        ·rw[if_pos S]
         have c5':j+1+l=b.size:=by simpa using S
         exact wpS_pure (.inl ⟨_,rfl,S2.trans g,M3.fin ω⟩)
        rw[if_neg S];have c5':j+1+l≠b.size:=by simpa using S
        refine wpS_bind (zk ex ?_);have M4:=M3.pushA ex D
        by_cases o:(i+k+1+1==a.size)=true
        ·rw[if_pos o]
         have F:i+k+1+1=a.size:=by simpa using o
         exact wpS_pure (.inl ⟨_,rfl,S2.trans g,M4.finL (aR _ _ ω)⟩)
        rw[if_neg o];have F:i+k+1+1≠a.size:=by simpa using o
        by_cases L:(decide (k<7)&&decide (l<7))=true
        ·rw[if_pos L]
         exact wpS_pure (.inr ⟨S2.trans g,_,_,_,_,_,_,rfl,⟨M4,ω,ω⟩,ω⟩)
        ·rw[if_neg L]
         exact wpS_pure ⟨S2.trans g,_,_,_,_,_,_,rfl,⟨M4,ω,ω⟩,ω⟩
       ·rw[if_neg H]
        have l0:l=0:=ω
        rw[l0] at D;refine wpS_bind (zk ex ?_);have M4:=M2.pushA ex D
        by_cases o:(i+k+1+1==a.size)=true
        ·rw[if_pos o]
         have F:i+k+1+1=a.size:=by simpa using o
         exact wpS_pure (.inl ⟨_,rfl,S2.trans g,M4.finL (aR _ _ ω)⟩)
        rw[if_neg o];have F:i+k+1+1≠a.size:=by simpa using o
        by_cases L:(decide (k<7)&&decide (l<7))=true
        ·rw[if_pos L]
         exact wpS_pure (.inr ⟨S2.trans g,_,_,_,_,_,_,rfl,⟨M4,ω,ω⟩,ω⟩)
        ·rw[if_neg L]
         exact wpS_pure ⟨S2.trans g,_,_,_,_,_,_,rfl,⟨M4,ω,ω⟩,ω⟩
      ·rw[if_neg hk0]
       have k0:k=0:=ω
       rw[k0] at after;refine wpS_bind (zk M ?_);have M2:=J2.mi.pushB M after
       by_cases P:(j+1==b.size)=true
       ·rw[if_pos P]
        have Z:j+1=b.size:=by simpa using P
        exact wpS_pure (.inl ⟨_,rfl,S2.trans g,M2.fin ω⟩)
       rw[if_neg P];have Z:j+1≠b.size:=by simpa using P
       obtain⟨x,ex⟩:=at_of (xs:=a) (i:=i) ω;refine wpS_bind (zk ex ?_);refine wpS_bind (zJ C ((S2.trans g).b hB) (ha _ (zy ex)) (fun l hl=>?_) (fun l m h1 h2=>cK sb ω ω) ω fun l l1 l2 l3=>?_)
       ·obtain⟨p,e⟩:=at_of (xs:=b) (i:=j+1+l) ω
        exact⟨p,e,hb _ (zy e)⟩
       dsimp only;have D:∀y∈b.toList.drop (j+1+l),ρ x<=ρ y:=fun u hu=>by
        obtain⟨d,T,U⟩:=zC hu;have q1:=l3 (l+d) ω ω;rw[show j+1+(l+d)=j+1+l+d from ω,aL U] at q1;simp[bq] at q1;omega
       by_cases H:l>0
       ·rw[if_pos H]
        have M3:=M2.blkB l fun u hu v hv=>by
         obtain⟨d,T,U,d3⟩:=jt hu;obtain⟨f,f1,f2⟩:=zC hv;have q1:=l2 d T;rw[aL d3] at q1;simp[bq] at q1;exact A8 (Int.le_of_lt q1) (de sa ex f2 ω)
        by_cases S:(j+1+l==b.size)=true
        ·rw[if_pos S]
         have c5':j+1+l=b.size:=by simpa using S
         exact wpS_pure (.inl ⟨_,rfl,S2.trans g,M3.fin ω⟩)
        rw[if_neg S];have c5':j+1+l≠b.size:=by simpa using S
        refine wpS_bind (zk ex ?_);have M4:=M3.pushA ex D
        by_cases o:(i+1+1==a.size)=true
        ·rw[if_pos o]
         have F:i+1+1=a.size:=by simpa using o
         exact wpS_pure (.inl ⟨_,rfl,S2.trans g,M4.finL (aR _ _ ω)⟩)
        rw[if_neg o];have F:i+1+1≠a.size:=by simpa using o
        by_cases L:(decide (k<7)&&decide (l<7))=true
        ·rw[if_pos L]
         exact wpS_pure (.inr ⟨S2.trans g,_,_,_,_,_,_,rfl,⟨M4,ω,ω⟩,ω⟩)
        ·rw[if_neg L]
         exact wpS_pure ⟨S2.trans g,_,_,_,_,_,_,rfl,⟨M4,ω,ω⟩,ω⟩
       ·rw[if_neg H]
        have l0:l=0:=ω
        rw[l0] at D;refine wpS_bind (zk ex ?_);have M4:=M2.pushA ex D
        by_cases o:(i+1+1==a.size)=true
        ·rw[if_pos o]
         have F:i+1+1=a.size:=by simpa using o
         exact wpS_pure (.inl ⟨_,rfl,S2.trans g,M4.finL (aR _ _ ω)⟩)
        rw[if_neg o];have F:i+1+1≠a.size:=by simpa using o
        by_cases L:(decide (k<7)&&decide (l<7))=true
        ·rw[if_pos L]
         exact wpS_pure (.inr ⟨S2.trans g,_,_,_,_,_,_,rfl,⟨M4,ω,ω⟩,ω⟩)
        ·rw[if_neg L]
         exact wpS_pure ⟨S2.trans g,_,_,_,_,_,_,rfl,⟨M4,ω,ω⟩,ω⟩
     ·rw[if_neg hm]
      refine wpS_bind (ju fun aG g=>?_);refine wpS_bind (zk M ?_);refine wpS_bind (zJ C ((S2.trans g).b hB) (hb _ (zy M)) (fun k hk=>?_) (fun k l h1 h2=>cK sa ω ω) ω fun k k1 k2 k3=>?_)
      ·obtain⟨p,e⟩:=at_of (xs:=a) (i:=i+k) ω
       exact⟨p,e,ha _ (zy e)⟩
      dsimp only;have kz:i+k<a.size:=by
       rcases Nat.lt_or_ge (i+k) a.size with q|q
       ·exact q
       ·have q1:=k2 (a.size-1-i) ω
        rw[show i+(a.size-1-i)=a.size-1 from ω,aL ez] at q1;have q2:=hz _ ez y (zy M);simp[bq] at q1;omega
      have after:∀x∈a.toList.drop (i+k),ρ y<=ρ x:=fun u hu=>by
       obtain⟨d,T,U⟩:=zC hu;have q1:=k3 (k+d) ω ω;rw[show i+(k+d)=i+k+d from ω,aL U] at q1;simp[bq] at q1;omega
      by_cases hk0:k>0
      ·rw[if_pos hk0]
       have MB:=J2.mi.blkA k fun u hu v hv=>by
        obtain⟨d,T,U,d3⟩:=jt hu;obtain⟨f,f1,f2⟩:=zC hv;have q1:=k2 d T;rw[aL d3] at q1;simp[bq] at q1;exact A8 q1 (de sb M f2 ω)
       by_cases O:(i+k+1==a.size)=true
       ·rw[if_pos O]
        have Y:i+k+1=a.size:=by simpa using O
        exact wpS_pure (.inl ⟨_,rfl,S2.trans g,MB.finL (aR _ _ ω)⟩)
       rw[if_neg O];have Y:i+k+1≠a.size:=by simpa using O
       rw[if_neg (show ¬(i+k==a.size)=true by simp;omega)];refine wpS_bind (zk M ?_);have M2:=MB.pushB M after
       by_cases P:(j+1==b.size)=true
       ·rw[if_pos P]
        have Z:j+1=b.size:=by simpa using P
        exact wpS_pure (.inl ⟨_,rfl,S2.trans g,M2.fin ω⟩)
       rw[if_neg P];have Z:j+1≠b.size:=by simpa using P
       obtain⟨x,ex⟩:=at_of (xs:=a) (i:=i+k) ω;refine wpS_bind (zk ex ?_);refine wpS_bind (zJ C ((S2.trans g).b hB) (ha _ (zy ex)) (fun l hl=>?_) (fun l m h1 h2=>cK sb ω ω) ω fun l l1 l2 l3=>?_)
       ·obtain⟨p,e⟩:=at_of (xs:=b) (i:=j+1+l) ω
        exact⟨p,e,hb _ (zy e)⟩
       dsimp only;have D:∀y∈b.toList.drop (j+1+l),ρ x<=ρ y:=fun u hu=>by
        obtain⟨d,T,U⟩:=zC hu;have q1:=l3 (l+d) ω ω;rw[show j+1+(l+d)=j+1+l+d from ω,aL U] at q1;simp[bq] at q1;omega
       by_cases H:l>0
       ·rw[if_pos H]
        have M3:=M2.blkB l fun u hu v hv=>by
         obtain⟨d,T,U,d3⟩:=jt hu;obtain⟨f,f1,f2⟩:=zC hv;have q1:=l2 d T;rw[aL d3] at q1;simp[bq] at q1;exact A8 (Int.le_of_lt q1) (de sa ex f2 ω)
        by_cases S:(j+1+l==b.size)=true
        ·rw[if_pos S]
         have c5':j+1+l=b.size:=by simpa using S
         exact wpS_pure (.inl ⟨_,rfl,S2.trans g,M3.fin ω⟩)
        rw[if_neg S];have c5':j+1+l≠b.size:=by simpa using S
        refine wpS_bind (zk ex ?_);have M4:=M3.pushA ex D
        by_cases o:(i+k+1+1==a.size)=true
        ·rw[if_pos o]
         have F:i+k+1+1=a.size:=by simpa using o
         exact wpS_pure (.inl ⟨_,rfl,S2.trans g,M4.finL (aR _ _ ω)⟩)
        rw[if_neg o];have F:i+k+1+1≠a.size:=by simpa using o
        by_cases L:(decide (k<7)&&decide (l<7))=true
        ·rw[if_pos L]
         exact wpS_pure (.inr ⟨S2.trans g,_,_,_,_,_,_,rfl,⟨M4,ω,ω⟩,ω⟩)
        ·rw[if_neg L]
         exact wpS_pure ⟨S2.trans g,_,_,_,_,_,_,rfl,⟨M4,ω,ω⟩,ω⟩
       ·rw[if_neg H]
        have l0:l=0:=ω
        rw[l0] at D;refine wpS_bind (zk ex ?_);have M4:=M2.pushA ex D
        by_cases o:(i+k+1+1==a.size)=true
        ·rw[if_pos o]
         have F:i+k+1+1=a.size:=by simpa using o
         exact wpS_pure (.inl ⟨_,rfl,S2.trans g,M4.finL (aR _ _ ω)⟩)
        rw[if_neg o];have F:i+k+1+1≠a.size:=by simpa using o
        by_cases L:(decide (k<7)&&decide (l<7))=true
        ·rw[if_pos L]
         exact wpS_pure (.inr ⟨S2.trans g,_,_,_,_,_,_,rfl,⟨M4,ω,ω⟩,ω⟩)
        ·rw[if_neg L]
         exact wpS_pure ⟨S2.trans g,_,_,_,_,_,_,rfl,⟨M4,ω,ω⟩,ω⟩
      ·rw[if_neg hk0]
       have k0:k=0:=ω
       rw[k0] at after;refine wpS_bind (zk M ?_);have M2:=J2.mi.pushB M after
       by_cases P:(j+1==b.size)=true
       ·rw[if_pos P]
        have Z:j+1=b.size:=by simpa using P
        exact wpS_pure (.inl ⟨_,rfl,S2.trans g,M2.fin ω⟩)
       rw[if_neg P];have Z:j+1≠b.size:=by simpa using P
       obtain⟨x,ex⟩:=at_of (xs:=a) (i:=i) ω;refine wpS_bind (zk ex ?_);refine wpS_bind (zJ C ((S2.trans g).b hB) (ha _ (zy ex)) (fun l hl=>?_) (fun l m h1 h2=>cK sb ω ω) ω fun l l1 l2 l3=>?_)
       ·obtain⟨p,e⟩:=at_of (xs:=b) (i:=j+1+l) ω
        exact⟨p,e,hb _ (zy e)⟩
       dsimp only;have D:∀y∈b.toList.drop (j+1+l),ρ x<=ρ y:=fun u hu=>by
        obtain⟨d,T,U⟩:=zC hu;have q1:=l3 (l+d) ω ω;rw[show j+1+(l+d)=j+1+l+d from ω,aL U] at q1;simp[bq] at q1;omega
       by_cases H:l>0
       ·rw[if_pos H]
        have M3:=M2.blkB l fun u hu v hv=>by
         obtain⟨d,T,U,d3⟩:=jt hu;obtain⟨f,f1,f2⟩:=zC hv;have q1:=l2 d T;rw[aL d3] at q1;simp[bq] at q1;exact A8 (Int.le_of_lt q1) (de sa ex f2 ω)
        by_cases S:(j+1+l==b.size)=true
        ·rw[if_pos S]
         have c5':j+1+l=b.size:=by simpa using S
         exact wpS_pure (.inl ⟨_,rfl,S2.trans g,M3.fin ω⟩)
        rw[if_neg S];have c5':j+1+l≠b.size:=by simpa using S
        refine wpS_bind (zk ex ?_);have M4:=M3.pushA ex D
        by_cases o:(i+1+1==a.size)=true
        ·rw[if_pos o]
         have F:i+1+1=a.size:=by simpa using o
         exact wpS_pure (.inl ⟨_,rfl,S2.trans g,M4.finL (aR _ _ ω)⟩)
        rw[if_neg o];have F:i+1+1≠a.size:=by simpa using o
        by_cases L:(decide (k<7)&&decide (l<7))=true
        ·rw[if_pos L]
         exact wpS_pure (.inr ⟨S2.trans g,_,_,_,_,_,_,rfl,⟨M4,ω,ω⟩,ω⟩)
        ·rw[if_neg L]
         exact wpS_pure ⟨S2.trans g,_,_,_,_,_,_,rfl,⟨M4,ω,ω⟩,ω⟩
       ·rw[if_neg H]
        have l0:l=0:=ω
        rw[l0] at D;refine wpS_bind (zk ex ?_);have M4:=M2.pushA ex D
        by_cases o:(i+1+1==a.size)=true
        ·rw[if_pos o]
         have F:i+1+1=a.size:=by simpa using o
         exact wpS_pure (.inl ⟨_,rfl,S2.trans g,M4.finL (aR _ _ ω)⟩)
        rw[if_neg o];have F:i+1+1≠a.size:=by simpa using o
        by_cases L:(decide (k<7)&&decide (l<7))=true
        ·rw[if_pos L]
         exact wpS_pure (.inr ⟨S2.trans g,_,_,_,_,_,_,rfl,⟨M4,ω,ω⟩,ω⟩)
        ·rw[if_neg L]
         exact wpS_pure ⟨S2.trans g,_,_,_,_,_,_,rfl,⟨M4,ω,ω⟩,ω⟩
end
structure MH(ρ:Keyed->Int)(la lb ra rb o:List Keyed):Prop where
 perm:((ra++rb)++o).Perm (la++lb)
 so:Le ρ o
 sa:Le ρ ra
 sb:Le ρ rb
 ao:∀x∈ra,∀y∈o,ρ x<=ρ y
 bo:∀x∈rb,∀y∈o,ρ x<=ρ y
def MH.takeA{ρ:Keyed->Int}{e f g blk a o:List Keyed}(h:MH ρ e f (g++blk) a o)(hb:∀y∈a,∀x∈blk,ρ y<=ρ x):MH ρ e f g a (blk++o):=by
 obtain⟨p,i,j,l,d,q⟩:=h;have c:=List.pairwise_append.mp j;refine⟨?_,List.pairwise_append.mpr ⟨c.2.1,i,fun x hx y hy=>d x (AB _ hx) y hy⟩,c.1,l,fun x hx y hy=>?_,fun x hx y hy=>?_⟩
 ·refine List.Perm.trans ?_ p
  simp only[AY];refine List.Perm.append_left _ ?_;rw[<-AY,<-AY];exact List.Perm.append_right _ List.perm_append_comm
 ·rcases List.mem_append.mp hy with hy|hy
  ·exact c.2.2 x hx y hy
  ·exact d x (A9 _ hx) y hy
 ·rcases List.mem_append.mp hy with hy|hy
  ·exact hb x hx y hy
  ·exact q x hx y hy
def MH.takeB{ρ:Keyed->Int}{e f a blk g o:List Keyed}(h:MH ρ e f a (g++blk) o)(hb:∀y∈a,∀x∈blk,ρ y<=ρ x):MH ρ e f a g (blk++o):=by
 obtain⟨p,i,j,l,q,d⟩:=h;have c:=List.pairwise_append.mp l;refine⟨by simpa[AY] using p,List.pairwise_append.mpr ⟨c.2.1,i,fun x hx y hy=>d x (AB _ hx) y hy⟩,j,c.1,fun x hx y hy=>?_,fun x hx y hy=>?_⟩
 ·rcases List.mem_append.mp hy with hy|hy
  ·exact hb x hx y hy
  ·exact q x hx y hy
 ·rcases List.mem_append.mp hy with hy|hy
  ·exact c.2.2 x hx y hy
  ·exact d x (A9 _ hx) y hy
def MH.doneA{ρ:Keyed->Int}{d f a c o:List Keyed}(h:MH ρ d f a c o)(e:a=[]):((a++c)++o).Perm (d++f)/\Le ρ ((a++c)++o):=by
 subst e;exact⟨h.perm,List.pairwise_append.mpr ⟨h.sb,h.so,h.bo⟩⟩
def MH.firstB{ρ:Keyed->Int}{d e c a o:List Keyed}(h:MH ρ d e c a o)(f:∀x∈a,∀y∈c,ρ x<=ρ y):((a++c)++o).Perm (d++e)/\Le ρ ((a++c)++o):=by
 have h2:=(show MH ρ d e ([]++c) a o from h).takeA f;refine⟨by simpa[AY] using (List.Perm.append_right o (List.perm_append_comm (l₁:=a) (l₂:=c))).trans h.perm,?_⟩;rw[AY];exact List.pairwise_append.mpr ⟨h2.sb,h2.so,h2.bo⟩
def xu{xs:Array Keyed}{i:Nat}{p:Keyed}(h:xs[i]?=some p):xs.toList.take (i+1)=xs.toList.take i++[p]:=by
 have h':xs.toList[i]?=some p:=by simpa using h
 rw[List.take_add_one,h']
 rfl
def xx{xs:Array Keyed}{i k:Nat}(h:i<=k):xs.toList.take k=xs.toList.take i++(xs.extract i k).toList:=by
 rw[Array.toList_extract,List.extract_eq_drop_take];have e:xs.toList.take k=(xs.toList.take k).take i++(xs.toList.take k).drop i:=(AX i _).symm;rw[List.take_take,List.drop_take,Nat.min_eq_left h] at e;exact e
def zE{xs:Array Keyed}{i:Nat}{y:Keyed}(h:y∈xs.toList.take i):∃j,j<i/\j<xs.size/\xs[j]?=some y:=by
 obtain⟨j,a,e⟩:=List.mem_iff_getElem.mp h;rw[AI,Af] at a;refine⟨j,ω,ω,?_⟩;rw[List.getElem_take] at e;rw[getElem?_pos xs j ω,<-e];simp
def g0{xs:Array Keyed}{i k:Nat}{y:Keyed}(h:y∈(xs.extract i k).toList):∃j,i<=j/\j<k/\j<xs.size/\xs[j]?=some y:=by
 obtain⟨j,a,e⟩:=List.mem_iff_getElem.mp h;rw[Af,Array.size_extract] at a;refine⟨i+j,ω,ω,ω,?_⟩;rw[getElem?_pos xs (i+j) ω,<-e];simp
def m_(xs:Array Keyed)(i:Nat):(xs.extract 0 i).toList=xs.toList.take i:=by
 rw[Array.toList_extract,List.extract_eq_drop_take];simp
section
variable{prog:Program}{w:World}{A:Around}{E:Ω}{s:Shared}{κ:SortKind}{a₀:Array Keyed}{ρ:Keyed->Int}
abbrev df(ρ:Keyed->Int)(a b out:Array Keyed)(na nb:Nat):Prop:=MH ρ a.toList b.toList (a.toList.take na) (b.toList.take nb) out.toList.reverse
structure Jh(ρ:Keyed->Int)(a b out:Array Keyed)(na nb:Nat):Prop where
 mi:df ρ a b out na nb
 la:1<=na
 lb:2<=nb
 za:na<=a.size
 zb:nb<=b.size
def MH.pushA{ρ:Keyed->Int}{a b out:Array Keyed}{c d:Nat}{x:Keyed}(h:df ρ a b out c d)(i:1<=c)(e:a[c-1]?=some x)(hy:∀y∈b.toList.take d,ρ y<=ρ x):df ρ a b (out.push x) (c-1) d:=by
 obtain⟨n,rfl⟩:∃n,c=n+1:=⟨c-1,ω⟩;rw[Nat.add_sub_cancel] at e ⊢;unfold df at *;rw[xu e] at h;rw[Array.toList_push,List.reverse_append];exact h.takeA fun y f z g=>by rw[List.mem_singleton.mp g];exact hy y f
def MH.pushB{ρ:Keyed->Int}{a b out:Array Keyed}{d c:Nat}{x:Keyed}(h:df ρ a b out d c)(i:1<=c)(e:b[c-1]?=some x)(hy:∀y∈a.toList.take d,ρ y<=ρ x):df ρ a b (out.push x) d (c-1):=by
 obtain⟨n,rfl⟩:∃n,c=n+1:=⟨c-1,ω⟩;rw[Nat.add_sub_cancel] at e ⊢;unfold df at *;rw[xu e] at h;rw[Array.toList_push,List.reverse_append];exact h.takeB fun y f z g=>by rw[List.mem_singleton.mp g];exact hy y f
def MH.blkA{ρ:Keyed->Int}{a b out:Array Keyed}{c d:Nat}(k:Nat)(hk:k<=c)(h:df ρ a b out c d)(hy:∀y∈b.toList.take d,∀x∈(a.extract k c).toList,ρ y<=ρ x):df ρ a b (out++(a.extract k c).reverse) k d:=by
 unfold df at *;rw[xx hk] at h;rw[A7,List.reverse_append,Array.toList_reverse,List.reverse_reverse];exact h.takeA hy
def MH.blkB{ρ:Keyed->Int}{a b out:Array Keyed}{d c:Nat}(k:Nat)(hk:k<=c)(h:df ρ a b out d c)(hy:∀y∈a.toList.take d,∀x∈(b.extract k c).toList,ρ y<=ρ x):df ρ a b (out++(b.extract k c).reverse) d k:=by
 unfold df at *;rw[xx hk] at h;rw[A7,List.reverse_append,Array.toList_reverse,List.reverse_reverse];exact h.takeB hy
def MH.fin{ρ:Keyed->Int}{a b out:Array Keyed}{c d:Nat}(h:df ρ a b out c d)(e:c=0):(a.extract 0 c++b.extract 0 d++out.reverse).toList.Perm (a.toList++b.toList)/\Le ρ (a.extract 0 c++b.extract 0 d++out.reverse).toList:=by
 rw[A7,A7,m_,m_,Array.toList_reverse];exact MH.doneA h (by rw[e];rfl)
def MH.finB{ρ:Keyed->Int}{a b out:Array Keyed}{d c:Nat}(h:df ρ a b out d c)(e:∀x∈b.toList.take c,∀y∈a.toList.take d,ρ x<=ρ y):(b.extract 0 c++a.extract 0 d++out.reverse).toList.Perm (a.toList++b.toList)/\Le ρ (b.extract 0 c++a.extract 0 d++out.reverse).toList:=by
 rw[A7,A7,m_,m_,Array.toList_reverse];exact MH.firstB h e
def D8(C:eR prog w A s κ a₀ ρ){st:SortSt}(hB:B κ a₀ st){a b:Array Keyed}{Q:Array Keyed->SortSt->Prop}(ha:∀p∈a.toList,p∈a₀.toList)(hb:∀p∈b.toList,p∈a₀.toList)(sa:Le ρ a.toList)(sb:Le ρ b.toList)(na:1<=a.size)(nb:1<=b.size)(h0:∀x∈a.toList,∀y,b[0]?=some y->ρ y<ρ x)(hz:∀z,a[a.size-1]?=some z->∀y∈b.toList,ρ y<ρ z)(h:∀r H,bQ ρ a b st r H->Q r H):wpS (model prog w) A E s (D4 a b) Q st:=by
 obtain⟨y0,e0⟩:=at_of (xs:=b) (i:=0) ω;have aR:∀i j,j<=1->∀x∈b.toList.take j,∀y∈a.toList.take i,ρ x<=ρ y:=fun i j hj x hx y hy=>by
  obtain⟨k,k1,k2,k3⟩:=zE hx;rw[show k=0 from ω,e0] at k3;cases k3;exact Int.le_of_lt (h0 y (List.mem_of_mem_take hy) _ e0)
 refine wpS_bind (wpS_lift (wpAny_rule ⟨rfl,?_⟩));obtain⟨z,ez⟩:=at_of (xs:=a) (i:=a.size-1) ω;refine wpS_bind (zk ez ?_);have M0:df ρ a b #[z] (a.size-1) b.size:=by
  have q:df ρ a b #[] a.size b.size:=by
   have e1:a.toList.take a.size=a.toList:=At (by simp);have e2:b.toList.take b.size=b.toList:=At (by simp);unfold df;rw[e1,e2];exact⟨by simp,by simp,sa,sb,by simp,by simp⟩
  exact MH.pushA (out:=#[]) q na ez fun y hy=>Int.le_of_lt (hz z ez y (List.mem_of_mem_take hy))
 dsimp only
 by_cases c1:(a.size-1==0)=true
 ·rw[if_pos c1]
  have c1':a.size-1=0:=by simpa using c1
  exact wpS_pure (h _ _ ⟨.refl,MH.fin M0 ω⟩)
 rw[if_neg c1];have c1':a.size-1≠0:=by simpa using c1
 by_cases c2:(b.size==1)=true
 ·rw[if_pos c2]
  have c2':b.size=1:=by simpa using c2
  exact wpS_pure (h _ _ ⟨.refl,MH.finB M0 (aR _ _ ω)⟩)
 rw[if_neg c2];have c2':b.size≠1:=by simpa using c2
 refine wpS_bind (wpS_get ?_);refine wpS_bind (wpS_mono (wpS_forRange (I:=fun x c H=>Sm st H/\∃na nb out mg,c=(none,na,nb,out,mg)/\Jh ρ a b out na nb/\x+1+(na+nb)<=a.size+b.size)
  (Q:=fun c H=>∃r,c.1=some r/\bQ ρ a b st r H) ?step ?fin ⟨.refl,_,_,_,_,rfl,⟨M0,ω,ω,ω,ω⟩,ω⟩) ?post)
 case post=>
  rintro⟨c1,c2⟩ H ⟨r,e,q⟩;dsimp only at e ⊢;subst e;exact wpS_pure (h _ _ q)
 case fin=>
  rintro c H ⟨_,na,nb,out,mg,_,J,hx⟩;have:=J.la;have:=J.lb;omega
 case step=>
  rintro x c gX _ hx ⟨S1,ia,ib,out,mg,rfl,J,hp⟩;dsimp only;refine wpS_bind (wpS_mono (wpS_forRange (I:=fun t c H=>H=gX/\∃Z aZ out ac bc,c=(none,Z,aZ,out,ac,bc)/\Jh ρ a b out Z aZ/\t+(Z+aZ)<=ia+ib)
   (Q:=fun c H=>H=gX/\((∃r,c.1=some r/\bQ ρ a b st r H)\/∃Z aZ out ac bc,c=(none,Z,aZ,out,ac,bc)/\Jh ρ a b out Z aZ/\1+(Z+aZ)<=ia+ib)) ?istep ?ifin ⟨rfl,_,_,_,_,_,rfl,J,ω⟩) ?ipost)
  case ifin=>
   rintro c H ⟨rfl,Z,aZ,out,ac,bc,rfl,J',bz⟩;exact⟨rfl,.inr ⟨_,_,_,_,_,rfl,J',ω⟩⟩
  case istep=>
   rintro t c H _ ht ⟨rfl,Z,aZ,out,ac,bc,rfl,J',bz⟩;dsimp only;have jT:=J'.la;have lc:=J'.lb;have o6:=J'.za;have nT:=J'.zb;obtain⟨y,O⟩:=at_of (xs:=b) (i:=aZ-1) ω;obtain⟨x,ex⟩:=at_of (xs:=a) (i:=Z-1) ω;refine wpS_bind (zk O (wpS_bind (zk ex (wpS_bind (kI C (S1.b hB) (hb _ (zy O)) (ha _ (zy ex)) ?_)))))
   by_cases S:ρ y<ρ x
   ·simp only[S,decide_true,if_true]
    refine wpS_bind (zk ex ?_);have M1:=MH.pushA J'.mi jT ex fun u hu=>by
     obtain⟨j,j1,j2,j3⟩:=zE hu;exact A8 (de sb j3 O ω) (Int.le_of_lt S)
    by_cases T:(Z-1==0)=true
    ·rw[if_pos T]
     have P:Z-1=0:=by simpa using T
     exact wpS_pure ⟨rfl,.inl ⟨_,rfl,S1,MH.fin M1 ω⟩⟩
    ·rw[if_neg T]
     have P:Z-1≠0:=by simpa using T
     split
     ·exact wpS_pure ⟨rfl,.inr ⟨_,_,_,_,_,rfl,⟨M1,ω,lc,ω,nT⟩,ω⟩⟩
     ·exact wpS_pure ⟨rfl,_,_,_,_,_,rfl,⟨M1,ω,lc,ω,nT⟩,ω⟩
   ·simp only[S,decide_false,Ai,if_false]
    refine wpS_bind (zk O ?_);have M1:=MH.pushB J'.mi ω O fun u hu=>by
     obtain⟨j,j1,j2,j3⟩:=zE hu;exact A8 (de sa j3 ex ω) (Int.not_lt.mp S)
    by_cases T:(aZ-1==1)=true
    ·rw[if_pos T]
     have P:aZ-1=1:=by simpa using T
     exact wpS_pure ⟨rfl,.inl ⟨_,rfl,S1,MH.finB M1 (aR _ _ ω)⟩⟩
    ·rw[if_neg T]
     have P:aZ-1≠1:=by simpa using T
     split
     ·exact wpS_pure ⟨rfl,.inr ⟨_,_,_,_,_,rfl,⟨M1,jT,ω,o6,ω⟩,ω⟩⟩
     ·exact wpS_pure ⟨rfl,_,_,_,_,_,rfl,⟨M1,jT,ω,o6,ω⟩,ω⟩
  case ipost=>
   rintro⟨c1,c2⟩ H ⟨rfl,⟨r,e,q⟩|⟨Z,aZ,out,ac,bc,e,J',bz⟩⟩
   ·dsimp only at e ⊢
    subst e;exact wpS_pure ⟨r,rfl,q⟩
   ·cases e
    dsimp only;refine wpS_bind (wpS_lift (wpAny_rule ⟨rfl,?_⟩));refine wpS_bind (wpS_mono (wpS_forRange (I:=fun t c H=>Sm st H/\∃aU aV out mg ac bc,c=(none,aU,aV,out,mg,ac,bc)/\Jh ρ a b out aU aV/\aU+aV<=Z+aZ)
     (Q:=fun c H=>((∃r,c.1=some r/\bQ ρ a b st r H)\/Sm st H/\∃aU aV out mg ac bc,c=(none,aU,aV,out,mg,ac,bc)/\Jh ρ a b out aU aV/\aU+aV<=Z+aZ)) ?gstep ?gfin ⟨S1,_,_,_,_,_,_,rfl,J',Ag _⟩) ?gpost)
    case gfin=>
     rintro c H q;exact .inr q
    case gpost=>
     rintro⟨c1,c2⟩ H (⟨r,e,q⟩|⟨S2,aU,aV,out,mg,ac,bc,e,J2,cD⟩)
     ·dsimp only at e ⊢
      subst e;exact wpS_pure ⟨r,rfl,q⟩
     ·cases e
      dsimp only;exact wpS_bind (ju fun aG g=>wpS_pure ⟨S2.trans g,_,_,_,_,rfl,J2,ω⟩)
    case gstep=>
     rintro t c a_ _ ht ⟨S2,i,j,out,mg,ac,bc,rfl,J2,cD⟩;dsimp only;have p8:=J2.la;have uy:=J2.lb;have vP:=J2.za;have vK:=J2.zb;obtain⟨y,O⟩:=at_of (xs:=b) (i:=j-1) ω
     by_cases hm:mg>1
     ·rw[if_pos hm]
      refine wpS_bind (ju fun aG g=>?_);refine wpS_bind (zk O ?_);refine wpS_bind (zJ C ((S2.trans g).b hB) (hb _ (zy O)) (fun k hk=>?_) (fun k l h1 h2=>cK sa ω ω) ω fun k k1 k2 k3=>?_)
      ·obtain⟨p,e⟩:=at_of (xs:=a) (i:=0+k) ω
       exact⟨p,e,ha _ (zy e)⟩
      dsimp only;have after:∀x∈a.toList.take k,ρ x<=ρ y:=fun u hu=>by
       obtain⟨d,L,X,Y⟩:=zE hu;have q1:=k2 d L;rw[Bl,aL Y] at q1;simp[bq] at q1;omega
      by_cases hk0:i-k>0
      ·rw[if_pos hk0]
       have MB:=MH.blkA k k1 J2.mi fun v hv u hu=>by
        obtain⟨d,L,X,Y,d4⟩:=g0 hu;obtain⟨f,f1,f2,f3⟩:=zE hv;have q1:=k3 d L X;rw[Bl,aL d4] at q1;simp[bq] at q1;exact A8 (de sb f3 O ω) ω
       by_cases T:(k==0)=true
       ·rw[if_pos T]
        have P:k=0:=by simpa using T
        exact wpS_pure (.inl ⟨_,rfl,S2.trans g,MH.fin MB P⟩)
       rw[if_neg T];have P:k≠0:=by simpa using T
       refine wpS_bind (zk O ?_);have M2:=MH.pushB MB ω O after
       by_cases U:(j-1==1)=true
       ·rw[if_pos U]
        have c4':j-1=1:=by simpa using U
        exact wpS_pure (.inl ⟨_,rfl,S2.trans g,MH.finB M2 (aR _ _ ω)⟩)
       rw[if_neg U];have c4':j-1≠1:=by simpa using U
       obtain⟨x,ex⟩:=at_of (xs:=a) (i:=k-1) ω;refine wpS_bind (zk ex ?_);refine wpS_bind (zJ C ((S2.trans g).b hB) (ha _ (zy ex)) (fun l hl=>?_) (fun l m h1 h2=>cK sb ω ω) ω fun l l1 l2 l3=>?_)
       ·obtain⟨p,e⟩:=at_of (xs:=b) (i:=0+l) ω
        exact⟨p,e,hb _ (zy e)⟩
       dsimp only;have lz:1<=l:=by
        rcases Nat.lt_or_ge 0 l with q|q
        ·exact q
        ·have q1:=l3 0 ω ω
         rw[aL e0] at q1;have q2:=h0 x (zy ex) y0 e0;simp[bq] at q1;omega
       have D:∀y∈b.toList.take l,ρ y<=ρ x:=fun u hu=>by
        obtain⟨d,L,X,Y⟩:=zE hu;have q1:=l2 d L;rw[Bl,aL Y] at q1;simp[bq] at q1;omega
       by_cases M:j-1-l>0
       ·rw[if_pos M]
        have M3:=MH.blkB l ω M2 fun v hv u hu=>by
         obtain⟨d,L,X,Y,d4⟩:=g0 hu;obtain⟨f,f1,f2,f3⟩:=zE hv;have q1:=l3 d L X;rw[Bl,aL d4] at q1;simp[bq] at q1;exact A8 (de sa f3 ex ω) ω
        by_cases W:(l==1)=true
        ·rw[if_pos W]
         have c5':l=1:=by simpa using W
         exact wpS_pure (.inl ⟨_,rfl,S2.trans g,MH.finB M3 (aR _ _ ω)⟩)
        rw[if_neg W];have c5':l≠1:=by simpa using W
        rw[if_neg (show ¬(l==0)=true by simp;omega)];refine wpS_bind (zk ex ?_);have G:=MH.pushA M3 ω ex D
        by_cases o:(k-1==0)=true
        ·rw[if_pos o]
         have F:k-1=0:=by simpa using o
         exact wpS_pure (.inl ⟨_,rfl,S2.trans g,MH.fin G ω⟩)
        rw[if_neg o];have F:k-1≠0:=by simpa using o
        by_cases N:(decide (i-k<7)&&decide (j-1-l<7))=true
        ·rw[if_pos N]
         exact wpS_pure (.inr ⟨S2.trans g,_,_,_,_,_,_,rfl,⟨G,ω,ω,ω,ω⟩,ω⟩)
        ·rw[if_neg N]
         exact wpS_pure ⟨S2.trans g,_,_,_,_,_,_,rfl,⟨G,ω,ω,ω,ω⟩,ω⟩
       ·rw[if_neg M]
        have l0:l=j-1:=ω
        rw[l0] at D;refine wpS_bind (zk ex ?_);have G:=MH.pushA M2 ω ex D
        by_cases o:(k-1==0)=true
        ·rw[if_pos o]
         have F:k-1=0:=by simpa using o
         exact wpS_pure (.inl ⟨_,rfl,S2.trans g,MH.fin G ω⟩)
        rw[if_neg o];have F:k-1≠0:=by simpa using o
        by_cases N:(decide (i-k<7)&&decide (j-1-l<7))=true
        ·rw[if_pos N]
         exact wpS_pure (.inr ⟨S2.trans g,_,_,_,_,_,_,rfl,⟨G,ω,ω,ω,ω⟩,ω⟩)
        ·rw[if_neg N]
         exact wpS_pure ⟨S2.trans g,_,_,_,_,_,_,rfl,⟨G,ω,ω,ω,ω⟩,ω⟩
      ·rw[if_neg hk0]
       have k0:k=i:=ω
       rw[k0] at after;refine wpS_bind (zk O ?_);have M2:=MH.pushB J2.mi ω O after
       by_cases U:(j-1==1)=true
       ·rw[if_pos U]
        have c4':j-1=1:=by simpa using U
        exact wpS_pure (.inl ⟨_,rfl,S2.trans g,MH.finB M2 (aR _ _ ω)⟩)
       rw[if_neg U];have c4':j-1≠1:=by simpa using U
       obtain⟨x,ex⟩:=at_of (xs:=a) (i:=i-1) ω;refine wpS_bind (zk ex ?_);refine wpS_bind (zJ C ((S2.trans g).b hB) (ha _ (zy ex)) (fun l hl=>?_) (fun l m h1 h2=>cK sb ω ω) ω fun l l1 l2 l3=>?_)
       ·obtain⟨p,e⟩:=at_of (xs:=b) (i:=0+l) ω
        exact⟨p,e,hb _ (zy e)⟩
       dsimp only;have lz:1<=l:=by
        rcases Nat.lt_or_ge 0 l with q|q
        ·exact q
        ·have q1:=l3 0 ω ω
         rw[aL e0] at q1;have q2:=h0 x (zy ex) y0 e0;simp[bq] at q1;omega
       have D:∀y∈b.toList.take l,ρ y<=ρ x:=fun u hu=>by
        obtain⟨d,L,X,Y⟩:=zE hu;have q1:=l2 d L;rw[Bl,aL Y] at q1;simp[bq] at q1;omega
       by_cases M:j-1-l>0
       ·rw[if_pos M]
        have M3:=MH.blkB l ω M2 fun v hv u hu=>by
         obtain⟨d,L,X,Y,d4⟩:=g0 hu;obtain⟨f,f1,f2,f3⟩:=zE hv;have q1:=l3 d L X;rw[Bl,aL d4] at q1;simp[bq] at q1;exact A8 (de sa f3 ex ω) ω
        by_cases W:(l==1)=true
        ·rw[if_pos W]
         have c5':l=1:=by simpa using W
         exact wpS_pure (.inl ⟨_,rfl,S2.trans g,MH.finB M3 (aR _ _ ω)⟩)
        rw[if_neg W];have c5':l≠1:=by simpa using W
        rw[if_neg (show ¬(l==0)=true by simp;omega)];refine wpS_bind (zk ex ?_);have G:=MH.pushA M3 ω ex D
        by_cases o:(i-1==0)=true
        ·rw[if_pos o]
         have F:i-1=0:=by simpa using o
         exact wpS_pure (.inl ⟨_,rfl,S2.trans g,MH.fin G ω⟩)
        rw[if_neg o];have F:i-1≠0:=by simpa using o
        by_cases N:(decide (i-k<7)&&decide (j-1-l<7))=true
        ·rw[if_pos N]
         exact wpS_pure (.inr ⟨S2.trans g,_,_,_,_,_,_,rfl,⟨G,ω,ω,ω,ω⟩,ω⟩)
        ·rw[if_neg N]
         exact wpS_pure ⟨S2.trans g,_,_,_,_,_,_,rfl,⟨G,ω,ω,ω,ω⟩,ω⟩
       ·rw[if_neg M]
        have l0:l=j-1:=ω
        rw[l0] at D;refine wpS_bind (zk ex ?_);have G:=MH.pushA M2 ω ex D
        by_cases o:(i-1==0)=true
        ·rw[if_pos o]
         have F:i-1=0:=by simpa using o
         exact wpS_pure (.inl ⟨_,rfl,S2.trans g,MH.fin G ω⟩)
        rw[if_neg o];have F:i-1≠0:=by simpa using o
        by_cases N:(decide (i-k<7)&&decide (j-1-l<7))=true
        ·rw[if_pos N]
         exact wpS_pure (.inr ⟨S2.trans g,_,_,_,_,_,_,rfl,⟨G,ω,ω,ω,ω⟩,ω⟩)
        ·rw[if_neg N]
         exact wpS_pure ⟨S2.trans g,_,_,_,_,_,_,rfl,⟨G,ω,ω,ω,ω⟩,ω⟩
     ·rw[if_neg hm]
      refine wpS_bind (ju fun aG g=>?_);refine wpS_bind (zk O ?_);refine wpS_bind (zJ C ((S2.trans g).b hB) (hb _ (zy O)) (fun k hk=>?_) (fun k l h1 h2=>cK sa ω ω) ω fun k k1 k2 k3=>?_)
      ·obtain⟨p,e⟩:=at_of (xs:=a) (i:=0+k) ω
       exact⟨p,e,ha _ (zy e)⟩
      dsimp only;have after:∀x∈a.toList.take k,ρ x<=ρ y:=fun u hu=>by
       obtain⟨d,L,X,Y⟩:=zE hu;have q1:=k2 d L;rw[Bl,aL Y] at q1;simp[bq] at q1;omega
      by_cases hk0:i-k>0
      ·rw[if_pos hk0]
       have MB:=MH.blkA k k1 J2.mi fun v hv u hu=>by
        obtain⟨d,L,X,Y,d4⟩:=g0 hu;obtain⟨f,f1,f2,f3⟩:=zE hv;have q1:=k3 d L X;rw[Bl,aL d4] at q1;simp[bq] at q1;exact A8 (de sb f3 O ω) ω
       by_cases T:(k==0)=true
       ·rw[if_pos T]
        have P:k=0:=by simpa using T
        exact wpS_pure (.inl ⟨_,rfl,S2.trans g,MH.fin MB P⟩)
       rw[if_neg T];have P:k≠0:=by simpa using T
       refine wpS_bind (zk O ?_);have M2:=MH.pushB MB ω O after
       by_cases U:(j-1==1)=true
       ·rw[if_pos U]
        have c4':j-1=1:=by simpa using U
        exact wpS_pure (.inl ⟨_,rfl,S2.trans g,MH.finB M2 (aR _ _ ω)⟩)
       rw[if_neg U];have c4':j-1≠1:=by simpa using U
       obtain⟨x,ex⟩:=at_of (xs:=a) (i:=k-1) ω;refine wpS_bind (zk ex ?_);refine wpS_bind (zJ C ((S2.trans g).b hB) (ha _ (zy ex)) (fun l hl=>?_) (fun l m h1 h2=>cK sb ω ω) ω fun l l1 l2 l3=>?_)
       ·obtain⟨p,e⟩:=at_of (xs:=b) (i:=0+l) ω
        exact⟨p,e,hb _ (zy e)⟩
       dsimp only;have lz:1<=l:=by
        rcases Nat.lt_or_ge 0 l with q|q
        ·exact q
        ·have q1:=l3 0 ω ω
         rw[aL e0] at q1;have q2:=h0 x (zy ex) y0 e0;simp[bq] at q1;omega
       have D:∀y∈b.toList.take l,ρ y<=ρ x:=fun u hu=>by
        obtain⟨d,L,X,Y⟩:=zE hu;have q1:=l2 d L;rw[Bl,aL Y] at q1;simp[bq] at q1;omega
       by_cases M:j-1-l>0
       ·rw[if_pos M]
        have M3:=MH.blkB l ω M2 fun v hv u hu=>by
         obtain⟨d,L,X,Y,d4⟩:=g0 hu;obtain⟨f,f1,f2,f3⟩:=zE hv;have q1:=l3 d L X;rw[Bl,aL d4] at q1;simp[bq] at q1;exact A8 (de sa f3 ex ω) ω
        by_cases W:(l==1)=true
        ·rw[if_pos W]
         have c5':l=1:=by simpa using W
         exact wpS_pure (.inl ⟨_,rfl,S2.trans g,MH.finB M3 (aR _ _ ω)⟩)
        rw[if_neg W];have c5':l≠1:=by simpa using W
        rw[if_neg (show ¬(l==0)=true by simp;omega)];refine wpS_bind (zk ex ?_);have G:=MH.pushA M3 ω ex D
        by_cases o:(k-1==0)=true
        ·rw[if_pos o]
         have F:k-1=0:=by simpa using o
         exact wpS_pure (.inl ⟨_,rfl,S2.trans g,MH.fin G ω⟩)
        rw[if_neg o];have F:k-1≠0:=by simpa using o
        by_cases N:(decide (i-k<7)&&decide (j-1-l<7))=true
        ·rw[if_pos N]
         exact wpS_pure (.inr ⟨S2.trans g,_,_,_,_,_,_,rfl,⟨G,ω,ω,ω,ω⟩,ω⟩)
        ·rw[if_neg N]
         exact wpS_pure ⟨S2.trans g,_,_,_,_,_,_,rfl,⟨G,ω,ω,ω,ω⟩,ω⟩
       ·rw[if_neg M]
        have l0:l=j-1:=ω
        rw[l0] at D;refine wpS_bind (zk ex ?_);have G:=MH.pushA M2 ω ex D
        by_cases o:(k-1==0)=true
        ·rw[if_pos o]
         have F:k-1=0:=by simpa using o
         exact wpS_pure (.inl ⟨_,rfl,S2.trans g,MH.fin G ω⟩)
        rw[if_neg o];have F:k-1≠0:=by simpa using o
        by_cases N:(decide (i-k<7)&&decide (j-1-l<7))=true
        ·rw[if_pos N]
         exact wpS_pure (.inr ⟨S2.trans g,_,_,_,_,_,_,rfl,⟨G,ω,ω,ω,ω⟩,ω⟩)
        ·rw[if_neg N]
         exact wpS_pure ⟨S2.trans g,_,_,_,_,_,_,rfl,⟨G,ω,ω,ω,ω⟩,ω⟩
      ·rw[if_neg hk0]
       have k0:k=i:=ω
       rw[k0] at after;refine wpS_bind (zk O ?_);have M2:=MH.pushB J2.mi ω O after
       by_cases U:(j-1==1)=true
       ·rw[if_pos U]
        have c4':j-1=1:=by simpa using U
        exact wpS_pure (.inl ⟨_,rfl,S2.trans g,MH.finB M2 (aR _ _ ω)⟩)
       rw[if_neg U];have c4':j-1≠1:=by simpa using U
       obtain⟨x,ex⟩:=at_of (xs:=a) (i:=i-1) ω;refine wpS_bind (zk ex ?_);refine wpS_bind (zJ C ((S2.trans g).b hB) (ha _ (zy ex)) (fun l hl=>?_) (fun l m h1 h2=>cK sb ω ω) ω fun l l1 l2 l3=>?_)
       ·obtain⟨p,e⟩:=at_of (xs:=b) (i:=0+l) ω
        exact⟨p,e,hb _ (zy e)⟩
       dsimp only;have lz:1<=l:=by
        rcases Nat.lt_or_ge 0 l with q|q
        ·exact q
        ·have q1:=l3 0 ω ω
         rw[aL e0] at q1;have q2:=h0 x (zy ex) y0 e0;simp[bq] at q1;omega
       have D:∀y∈b.toList.take l,ρ y<=ρ x:=fun u hu=>by
        obtain⟨d,L,X,Y⟩:=zE hu;have q1:=l2 d L;rw[Bl,aL Y] at q1;simp[bq] at q1;omega
       by_cases M:j-1-l>0
       ·rw[if_pos M]
        have M3:=MH.blkB l ω M2 fun v hv u hu=>by
         obtain⟨d,L,X,Y,d4⟩:=g0 hu;obtain⟨f,f1,f2,f3⟩:=zE hv;have q1:=l3 d L X;rw[Bl,aL d4] at q1;simp[bq] at q1;exact A8 (de sa f3 ex ω) ω
        by_cases W:(l==1)=true
        ·rw[if_pos W]
         have c5':l=1:=by simpa using W
         exact wpS_pure (.inl ⟨_,rfl,S2.trans g,MH.finB M3 (aR _ _ ω)⟩)
        rw[if_neg W];have c5':l≠1:=by simpa using W
        rw[if_neg (show ¬(l==0)=true by simp;omega)];refine wpS_bind (zk ex ?_);have G:=MH.pushA M3 ω ex D
        by_cases o:(i-1==0)=true
        ·rw[if_pos o]
         have F:i-1=0:=by simpa using o
         exact wpS_pure (.inl ⟨_,rfl,S2.trans g,MH.fin G ω⟩)
        rw[if_neg o];have F:i-1≠0:=by simpa using o
        by_cases N:(decide (i-k<7)&&decide (j-1-l<7))=true
        ·rw[if_pos N]
         exact wpS_pure (.inr ⟨S2.trans g,_,_,_,_,_,_,rfl,⟨G,ω,ω,ω,ω⟩,ω⟩)
        ·rw[if_neg N]
         exact wpS_pure ⟨S2.trans g,_,_,_,_,_,_,rfl,⟨G,ω,ω,ω,ω⟩,ω⟩
       ·rw[if_neg M]
        have l0:l=j-1:=ω
        rw[l0] at D;refine wpS_bind (zk ex ?_);have G:=MH.pushA M2 ω ex D
        by_cases o:(i-1==0)=true
        ·rw[if_pos o]
         have F:i-1=0:=by simpa using o
         exact wpS_pure (.inl ⟨_,rfl,S2.trans g,MH.fin G ω⟩)
        rw[if_neg o];have F:i-1≠0:=by simpa using o
        by_cases N:(decide (i-k<7)&&decide (j-1-l<7))=true
        ·rw[if_pos N]
         exact wpS_pure (.inr ⟨S2.trans g,_,_,_,_,_,_,rfl,⟨G,ω,ω,ω,ω⟩,ω⟩)
        ·rw[if_neg N]
         exact wpS_pure ⟨S2.trans g,_,_,_,_,_,_,rfl,⟨G,ω,ω,ω,ω⟩,ω⟩
end
def putAll(xs:Array Keyed)(c:Nat)(m:List Keyed)(d:Nat):Array Keyed:=List.foldl (fun a x=>a.setIfInBounds (c+x.snd) x.fst) xs (m.zipIdx d)
def ro:∀(m:List Keyed)(xs:Array Keyed)(a c:Nat),a+c+m.length<=xs.size->∀k,(putAll xs a m c)[k]?=if a+c<=k/\k<a+c+m.length then m[k-(a+c)]? else xs[k]?
 |[],xs,a,c,_,k=>by
  show xs[k]?=_;rw[if_neg (by rw[List.length_nil];omega)]
 |p::m,xs,a,c,h,k=>by
  rw[Ap] at h;have e:=ro m (xs.setIfInBounds (a+c) p) a (c+1) (by rw[Array.size_setIfInBounds];omega) k;show(putAll (xs.setIfInBounds (a+c) p) a m (c+1))[k]?=_;rw[e,Ap]
  by_cases h1:k=a+c
  ·subst h1
   rw[if_neg ω,if_pos ω,Array.getElem?_setIfInBounds_self_of_lt ω];simp
  ·by_cases h2:a+(c+1)<=k/\k<a+(c+1)+m.length
   ·rw[if_pos h2,if_pos ω]
    obtain⟨d,hd⟩:∃d,k-(a+c)=d+1:=⟨k-(a+c)-1,ω⟩;rw[hd,List.getElem?_cons_succ]
    congr 1
    omega
   ·rw[if_neg h2,if_neg ω,Array.getElem?_setIfInBounds_ne ω]
def D9{m:List Keyed}{xs:Array Keyed}{a:Nat}(h:a+m.length<=xs.size):(putAll xs a m 0).toList=xs.toList.take a++(m++xs.toList.drop (a+m.length)):=by
 apply List.ext_getElem?;intro k;have e:=ro m xs a 0 ω k;rw[AD,e]
 by_cases h1:k<a
 ·rw[if_neg ω,List.getElem?_append_left (by rw[AI,Af];omega),List.getElem?_take_of_lt h1]
  simp
 ·rw[List.getElem?_append_right (by rw[AI,Af];omega)]
  rw[show(xs.toList.take a).length=a by rw[AI,Af];omega]
  by_cases h2:k<a+m.length
  ·rw[if_pos ω,List.getElem?_append_left ω,Nat.add_zero]
  ·rw[if_neg ω,List.getElem?_append_right ω,List.getElem?_drop]
   rw[show a+m.length+(k-a-m.length)=k from ω];simp
def Seg(ρ:Keyed->Int)(xs:Array Keyed):Nat->List (Nat×Nat×Nat)->Nat->Prop
 |lo,[],hi=>lo=hi
 |lo,(s,n,_)::r,hi=>s=lo/\1<=n/\bu ρ xs lo (lo+n)/\Seg ρ xs (lo+n) r hi
def Seg.le{ρ:Keyed->Int}{xs:Array Keyed}:∀{l:List (Nat×Nat×Nat)}{lo hi:Nat},Seg ρ xs lo l hi->lo+l.length<=hi
 |[],_,_,h=>by have:_=_:=h;simp;omega
 |(s,n,p)::r,lo,hi,h=>by
  obtain⟨_,h1,_,h2⟩:=h;have:=Seg.le h2;rw[Ap];omega
def Seg.congr{ρ:Keyed->Int}{xs ys:Array Keyed}:∀{l:List (Nat×Nat×Nat)}{lo hi:Nat},Seg ρ xs lo l hi->(∀k,lo<=k->k<hi->ys[k]?=xs[k]?)->Seg ρ ys lo l hi
 |[],_,_,h,_=>h
 |(s,n,p)::r,lo,hi,h,hk=>by
  obtain⟨e,h1,h2,d⟩:=h;have:=Seg.le d;refine⟨e,h1,fun i j a b c=>?_,d.congr fun k a b=>hk k ω b⟩;rw[gf (hk i ω ω),gf (hk j ω ω)];exact h2 i j a b c
def Seg.app{ρ:Keyed->Int}{xs:Array Keyed}:∀{l r:List (Nat×Nat×Nat)}{lo hi:Nat},Seg ρ xs lo (l++r) hi↔∃m,Seg ρ xs lo l m/\Seg ρ xs m r hi
 |[],r,lo,hi=>⟨fun h=>⟨lo,rfl,h⟩,fun⟨m,h1,h2⟩=>by have e:lo=m:=h1;subst e;exact h2⟩
 |(s,n,p)::l,r,lo,hi=>by
  constructor
  ·rintro⟨a,h1,h2,f⟩
   obtain⟨m,c,d⟩:=Seg.app.mp f;exact⟨m,⟨a,h1,h2,c⟩,d⟩
  ·rintro⟨m,⟨a,h1,h2,c⟩,d⟩
   exact⟨a,h1,h2,Seg.app.mpr ⟨m,c,d⟩⟩
def D_{c:Type}{l:List c}{i:Nat}{x y:c}(h1:l[i]?=some x)(h2:l[i+1]?=some y):∃a post,l=a++x::y::post/\a.length=i:=by
 obtain⟨d,e1⟩:=List.getElem?_eq_some_iff.mp h1;obtain⟨e,e2⟩:=List.getElem?_eq_some_iff.mp h2;refine⟨l.take i,l.drop (i+2),?_,by rw[AI];omega⟩
 conv=>lhs;rw[<-AX i l]
 rw[List.drop_eq_getElem_cons d,List.drop_eq_getElem_cons e,e1,e2]
def Ea{c:Type}{d:Array c}{i:Nat}{x y z:c}{a post:List c}(h:d.toList=a++x::y::post)(hi:a.length=i):((d.setIfInBounds i z).eraseIdxIfInBounds (i+1)).toList=a++z::post:=by
 subst hi;rw[Array.toList_eraseIdxIfInBounds,Array.toList_setIfInBounds,h,List.set_append_right _ _ (Ag _),Nat.sub_self,List.set_cons_zero,List.eraseIdx_append_of_length_le ω];rw[show a.length+1-a.length=1 from ω]
 rfl
section
variable{prog:Program}{w:World}{A:Around}{E:Ω}{s:Shared}{κ:SortKind}{a₀:Array Keyed}{ρ:Keyed->Int}
def Eb{M:Model}{σ:Type}{st a:σ}{Q:PUnit->σ->Prop}(h:Q ⟨⟩ a):wpS M A E s (set a:StateT σ Sem PUnit) Q st:=by
 unfold wpS;rw[StateT.run_set];exact Ad ⟨rfl,h⟩
def xy{xs:Array Keyed}{lo hi:Nat}(h:bu ρ xs lo hi)(e:hi<=xs.size):Le ρ (xs.extract lo hi).toList:=by
 rw[Le,List.pairwise_iff_getElem];intro i j a c d;rw[Af,Array.size_extract] at a c;have q:=h (lo+i) (lo+j) ω ω ω;rw[aL (getElem?_pos xs (lo+i) ω),aL (getElem?_pos xs (lo+j) ω)] at q
 simpa using q
def xz{xs:Array Keyed}{lo hi i:Nat}(h:lo+i<hi)(a:hi<=xs.size):(xs.extract lo hi)[i]?=xs[lo+i]?:=by
 rw[Array.getElem?_extract,if_pos ω]
def rp(C:eR prog w A s κ a₀ ρ){st:SortSt}(P:B κ a₀ st){i hi:Nat}{Q:Bool->SortSt->Prop}(hS:Seg ρ (arrOf st) 0 (AH st).toList hi)(hz:hi<=a₀.size)(sX:i+1<(AH st).size)(h:∀D,B κ a₀ D->Seg ρ (arrOf D) 0 (AH D).toList hi->(AH D).size+1=(AH st).size->(∀k,hi<=k->(arrOf D)[k]?=(arrOf st)[k]?)->Q true D):wpS (model prog w) A E s (mergeAt' i) Q st:=by
 obtain⟨⟨c,f,p⟩,g1⟩:∃x,(AH st)[i]?=some x:=⟨_,getElem?_pos _ i ω⟩;obtain⟨⟨sb,G,q⟩,g2⟩:∃x,(AH st)[i+1]?=some x:=⟨_,getElem?_pos _ (i+1) sX⟩;obtain⟨pre,post,el,dC⟩:=D_ (l:=(AH st).toList) (by rw[AD];exact g1) (by rw[AD];exact g2);have bE:=hS;rw[el] at bE;obtain⟨m,S1,e1,n1,U,e2,n2,S,S2⟩:=Seg.app.mp bE;subst e1 e2;have bY:=S2.le;have hsz:=P.size;have fin:∀D,B κ a₀ D->AH D=((AH st).setIfInBounds i (c,f+G,p)).eraseIdxIfInBounds (i+1)->(∀k,(k<c\/c+f+G<=k)->(arrOf D)[k]?=(arrOf st)[k]?)->
   bu ρ (arrOf D) c (c+f+G)->Q true D:=fun D aO hP hk hs=>by
  have hl:=Ea (z:=(c,f+G,p)) el dC;refine h D aO ?_ ?_ fun k hk'=>hk k (.inr ω)
  ·rw[hP,hl]
   refine Seg.app.mpr ⟨c,S1.congr fun k _ b=>hk k (.inl b),rfl,ω,by rw[<-Nat.add_assoc];exact hs,?_⟩;rw[<-Nat.add_assoc];exact S2.congr fun k a _=>hk k (.inr ω)
  ·rw[hP,<-Af,hl,<-Af,el]
   simp;omega
 refine wpS_bind (wpS_get ?_);rw[g1,g2];dsimp only;refine wpS_bind (Eb ?_);show wpS _ _ _ _ _ _ (SortSt.mk' (kindOf st) (arrOf st) (((AH st).setIfInBounds i (c,f+G,p)).eraseIdxIfInBounds (i+1)) (gallopOf st) (failedOf st));generalize e2:((SortSt.mk' (kindOf st) (arrOf st) (((AH st).setIfInBounds i (c,f+G,p)).eraseIdxIfInBounds (i+1)) (gallopOf st) (failedOf st)):SortSt)=a_;have a2:arrOf a_=arrOf st:=by rw[<-e2]
 have p2:AH a_=((AH st).setIfInBounds i (c,f+G,p)).eraseIdxIfInBounds (i+1):=by rw[<-e2]
 have g:B κ a₀ a_:=⟨by rw[a2];exact P.perm,by rw[<-e2];exact P.kind,by rw[<-e2];exact P.failed⟩;have pt:∀k,k<(arrOf st).size->∃x,(arrOf st)[k]?=some x/\x∈a₀.toList:=fun k hk=>by
  obtain⟨x,e,m⟩:=rn hk;exact⟨x,e,P.mem m⟩
 obtain⟨L,W,my⟩:=pt (c+f) ω;refine wpS_bind (zk W ?_);refine wpS_bind (zJ (base:=c) (n:=f) (hint:=0) (arr:=arrOf st) C g my (fun k hk=>pt _ ω) (fun k l h1 h2=>U _ _ ω ω ω) ω fun k k1 k2 k3=>?_);dsimp only;have kle:∀d,d<k->R ρ (arrOf st) (c+d)<=ρ L:=fun d hd=>by
  have q1:=k2 d hd;simp[bq] at q1;exact q1
 have X:∀d,k<=d->d<f->ρ L<R ρ (arrOf st) (c+d):=fun d h1 h2=>by
  have q1:=k3 d h1 h2;simp[bq] at q1;exact q1
 by_cases c1:(f-k==0)=true
 ·rw[if_pos c1]
  have c1':f-k=0:=by simpa using c1
  refine wpS_pure (fin a_ g p2 (fun k _=>by rw[a2]) ?_);rw[a2];intro x y h1 h2 H
  by_cases hy:y<c+f
  ·exact U x y h1 h2 hy
  ·by_cases hx:c+f<=x
   ·exact S x y hx h2 H
   ·have q1:=kle (x-c) ω
    rw[show c+(x-c)=x from ω] at q1;have I:=S (c+f) y ω ω H;rw[aL W] at I;omega
 rw[if_neg c1];have c1':f-k≠0:=by simpa using c1
 obtain⟨z,ez,mz⟩:=pt (c+k+(f-k)-1) ω;refine wpS_bind (zk ez ?_);refine wpS_bind (zJ (base:=c+f) (n:=G) (hint:=G-1) (arr:=arrOf st) C g mz (fun l hl=>pt _ ω) (fun l l' h1 h2=>S _ _ ω ω ω) ω fun l l1 l2 l3=>?_);dsimp only;have lH:(arrOf st)[c+f-1]?=some z:=by rw[show c+f-1=c+k+(f-k)-1 from ω];exact ez
 have llt:∀d,d<l->R ρ (arrOf st) (c+f+d)<ρ z:=fun d hd=>by
  have q1:=l2 d hd;simp[bq] at q1;exact q1
 have Y:∀d,l<=d->d<G->ρ z<=R ρ (arrOf st) (c+f+d):=fun d h1 h2=>by
  have q1:=l3 d h1 h2;simp[bq] at q1;exact q1
 have yz:ρ L<ρ z:=by
  have q1:=X (f-1) ω ω;rw[show c+(f-1)=c+f-1 from ω,aL lH] at q1;exact q1
 have lz:1<=l:=by
  rcases Nat.lt_or_ge 0 l with q1|q1
  ·exact q1
  ·have I:=Y 0 ω ω
   rw[Nat.add_zero,aL W] at I;omega
 rw[if_neg (show ¬(l==0)=true by simp;omega)];have sA:(( arrOf st).extract (c+k) (c+f)).size=f-k:=by rw[Array.size_extract];omega
 have N:(( arrOf st).extract (c+f) (c+f+l)).size=l:=by rw[Array.size_extract];omega
 have j:∀x∈((arrOf st).extract (c+k) (c+f)).toList,x∈a₀.toList/\ρ L<ρ x/\ρ x<=ρ z:=fun x hx=>by
  obtain⟨d,d1,d2,d3,M⟩:=g0 hx;have q1:=X (d-c) ω ω;rw[show c+(d-c)=d from ω,aL M] at q1;have I:=U d (c+f-1) ω ω ω;rw[aL M,aL lH] at I;exact⟨P.mem (zy M),q1,I⟩
 have o:∀x∈((arrOf st).extract (c+f) (c+f+l)).toList,x∈a₀.toList/\ρ L<=ρ x/\ρ x<ρ z:=fun x hx=>by
  obtain⟨d,d1,d2,d3,M⟩:=g0 hx;have q1:=llt (d-(c+f)) ω;rw[show c+f+(d-(c+f))=d from ω,aL M] at q1;have I:=S (c+f) d ω ω ω;rw[aL M,aL W] at I;exact⟨P.mem (zy M),I,q1⟩
 have lA:Le ρ ((arrOf st).extract (c+k) (c+f)).toList:=xy (fun x y h1 h2 H=>U x y ω h2 H) ω;have lB:Le ρ ((arrOf st).extract (c+f) (c+f+l)).toList:=xy (fun x y h1 h2 H=>S x y h1 h2 ω) ω;have fW:∀x∈((arrOf st).extract (c+k) (c+f)).toList,∀y,((arrOf st).extract (c+f) (c+f+l))[0]?=some y->ρ y<ρ x:=fun x hx y hy=>by
  rw[xz ω ω,Nat.add_zero,W] at hy;cases hy;exact(j x hx).2.1
 have Z:∀z',((arrOf st).extract (c+k) (c+f))[((arrOf st).extract (c+k) (c+f)).size-1]?=some z'->∀y∈((arrOf st).extract (c+f) (c+f+l)).toList,ρ y<ρ z':=fun z' aR y hy=>by
  rw[sA,xz ω ω,show c+k+(f-k-1)=c+f-1 from ω,lH] at aR;cases aR;exact(o y hy).2.2
 have done:∀(r:Array Keyed)(F:SortSt),bQ ρ ((arrOf st).extract (c+k) (c+f)) ((arrOf st).extract (c+f) (c+f+l)) a_ r F->
   Q true (setArr F (putAll (arrOf F) (c+k) r.toList 0)):=fun r F ⟨S3,pm,ls⟩=>by
  have a3:arrOf F=arrOf st:=S3.arr.trans a2;have rl:r.toList.length=f-k+l:=by
   have:=pm.length_eq;rw[Aq] at this;simp only[Af] at this ⊢;rw[sA,N] at this;exact this
  have get:∀x,(putAll (arrOf st) (c+k) r.toList 0)[x]?=if c+k<=x/\x<c+f+l then r.toList[x-(c+k)]? else(arrOf st)[x]?:=fun x=>by
   have:=ro r.toList (arrOf st) (c+k) 0 ω x;rw[this,Nat.add_zero,rl,show c+k+(f-k+l)=c+f+l from ω]
  have rm:∀x∈r.toList,ρ L<=ρ x/\ρ x<=ρ z:=fun x hx=>by
   rcases List.mem_append.mp (pm.mem_iff.mp hx) with q1|q1
   ·exact⟨Int.le_of_lt (j x q1).2.1,(j x q1).2.2⟩
   ·exact⟨(o x q1).2.1,Int.le_of_lt (o x q1).2.2⟩
  rw[a3];refine fin _ ?_ (S3.pend.trans p2) (fun x hx=>?_) ?_
  ·have bW:=S3.b g
   refine bW.setArr ?_;rw[Array.perm_iff_toList_perm,D9 ω,a3];have e4:(arrOf st).toList=(arrOf st).toList.take (c+k)++((((arrOf st).extract (c+k) (c+f)).toList++((arrOf st).extract (c+f) (c+f+l)).toList)++(arrOf st).toList.drop (c+k+r.toList.length)):=by
    conv=>lhs;rw[<-AX (c+k) (arrOf st).toList]
    rw[mW (c+k) (f-k),mW (c+k+(f-k)) l,show c+k+(f-k)=c+f from ω,show c+k+r.toList.length=c+f+l from ω,AY]
   conv=>rhs;rw[e4]
   exact List.Perm.append_left _ (List.Perm.append_right _ pm)
  ·show(putAll (arrOf st) (c+k) r.toList 0)[x]?=_
   rw[get,if_neg ω]
  ·show bu ρ (putAll (arrOf st) (c+k) r.toList 0) c (c+f+G)
   have T:∀x,¬(c+k<=x/\x<c+f+l)->R ρ (putAll (arrOf st) (c+k) r.toList 0) x=R ρ (arrOf st) x:=fun x hx=>gf (by rw[get,if_neg hx]);have RI:∀x,c+k<=x->x<c+f+l->∃u,r.toList[x-(c+k)]?=some u/\u∈r.toList/\R ρ (putAll (arrOf st) (c+k) r.toList 0) x=ρ u:=fun x h1 h2=>by
    have O:x-(c+k)<r.toList.length:=ω
    exact⟨r.toList[x-(c+k)],getElem?_pos r.toList _ O,List.getElem_mem O,aL (by rw[get,if_pos ⟨h1,h2⟩];exact getElem?_pos r.toList _ O)⟩
   have low:∀x,c<=x->x<c+k->R ρ (arrOf st) x<=ρ L:=fun x h1 h2=>by
    have q1:=kle (x-c) ω;rw[show c+(x-c)=x from ω] at q1;exact q1
   have J:∀x,c+f+l<=x->x<c+f+G->ρ z<=R ρ (arrOf st) x:=fun x h1 h2=>by
    have q1:=Y (x-(c+f)) ω ω;rw[show c+f+(x-(c+f))=x from ω] at q1;exact q1
   intro x y h1 h2 H
   by_cases x1:x<c+k
   ·rw[T x ω]
    have q1:=low x h1 x1
    by_cases y1:y<c+k
    ·rw[T y ω]
     exact U x y h1 h2 ω
    ·by_cases y2:y<c+f+l
     ·obtain⟨u,_,mu,eu⟩:=RI y ω y2
      rw[eu];exact A8 q1 (rm u mu).1
     ·rw[T y ω]
      have:=J y ω H;omega
   ·by_cases x2:x<c+f+l
    ·obtain⟨u,gu,mu,eu⟩:=RI x ω x2
     rw[eu]
     by_cases y2:y<c+f+l
     ·obtain⟨v,gv,mv,ev⟩:=RI y ω y2
      rw[ev];exact de ls (by rw[<-AD];exact gu) (by rw[<-AD];exact gv) ω
     ·rw[T y ω]
      exact A8 (rm u mu).2 (J y ω H)
    ·rw[T x ω,T y ω]
     exact S x y ω h2 H
 by_cases c3:f-k<=l
 ·rw[if_pos c3]
  refine wpS_bind (D7 C g (fun x hx=>(j x hx).1) (fun x hx=>(o x hx).1) lA lB (show 1<=((arrOf st).extract (c+k) (c+f)).size by rw[sA];omega) (show 1<=((arrOf st).extract (c+f) (c+f+l)).size by rw[N];omega) (fun x hx y hy=>Int.le_of_lt (fW x hx y hy)) Z fun r F hr=>?_);refine wpS_bind (wpS_modify (wpS_bind (wpS_get (wpS_pure ?_))));have hf:failedOf F=none:=(hr.1.b g).failed;show Q (failedOf F).isNone _;rw[hf];exact done r F hr
 ·rw[if_neg c3]
  refine wpS_bind (D8 C g (fun x hx=>(j x hx).1) (fun x hx=>(o x hx).1) lA lB (show 1<=((arrOf st).extract (c+k) (c+f)).size by rw[sA];omega) (show 1<=((arrOf st).extract (c+f) (c+f+l)).size by rw[N];omega) fW Z fun r F hr=>?_);refine wpS_bind (wpS_modify (wpS_bind (wpS_get (wpS_pure ?_))));have hf:failedOf F=none:=(hr.1.b g).failed;show Q (failedOf F).isNone _;rw[hf];exact done r F hr
end
def Seg.pow{ρ:Keyed->Int}{xs:Array Keyed}:∀{l a:List (Nat×Nat×Nat)}{lo hi:Nat},Seg ρ xs lo l hi->a.map (fun x=>(x.1,x.2.1))=l.map (fun x=>(x.1,x.2.1))->Seg ρ xs lo a hi
 |[],[],_,_,h,_=>h
 |[],_::_,_,_,_,e=>by simp at e
 |_::_,[],_,_,_,e=>by simp at e
 |(s,n,p)::l,(s',n',p')::a,lo,hi,h,e=>by
  simp only[AT,List.cons.injEq,Prod.mk.injEq] at e;obtain⟨⟨rfl,rfl⟩,e⟩:=e;exact⟨h.1,h.2.1,h.2.2.1,h.2.2.2.pow e⟩
def xB(a:Array (Nat×Nat×Nat))(i c:Nat):(a.modify i fun x=>(x.1,x.2.1,c)).toList.map (fun x=>(x.1,x.2.1))=a.toList.map (fun x=>(x.1,x.2.1)):=by
 rw[Array.toList_modify];apply List.ext_getElem?;intro k;rw[Ar,Ar,List.getElem?_modify];cases e:a.toList[k]? with
 |none=>simp
 |some x=>
  simp only[Option.map_some];split<;>rfl
def Seg.one{ρ:Keyed->Int}{xs:Array Keyed}{l:List (Nat×Nat×Nat)}{hi:Nat}(h:Seg ρ xs 0 l hi)(c:l.length<=1):bu ρ xs 0 hi:=by
 match l,h,c with
 |[],h,_=>
  have e:0=hi:=h;subst e;intro i j _ _ d;omega
 |[(s,n,p)],h,_=>
  obtain⟨_,_,h2,a⟩:=h;have e:0+n=hi:=a;subst e;exact h2
section
variable{prog:Program}{w:World}{A:Around}{E:Ω}{s:Shared}{κ:SortKind}{a₀:Array Keyed}{ρ:Keyed->Int}
def Ec(C:eR prog w A s κ a₀ ρ){st:SortSt}{Q:Unit->SortSt->Prop}(hB:B κ a₀ st)(hp:AH st=#[])(h:∀d,B κ a₀ d->bu ρ (arrOf d) 0 a₀.size->Q () d):wpS (model prog w) A E s sortRuns' Q st:=by
 rw[sortRuns'_eq];refine wpS_bind (wpS_get ?_);dsimp only;simp only[hB.size];refine wpS_bind (wpS_mono (wpS_forRange
  (I:=fun x c d=>∃lo,c=(none,lo)/\B κ a₀ d/\Seg ρ (arrOf d) 0 (AH d).toList lo/\lo<=a₀.size/\x<=lo)
  (Q:=fun c d=>c=(none,a₀.size)/\B κ a₀ d/\Seg ρ (arrOf d) 0 (AH d).toList a₀.size) ?step ?fin ⟨0,rfl,hB,by rw[hp];exact rfl,ω,ω⟩) ?post)
 case fin=>
  rintro c d ⟨lo,rfl,p,hS,h1,h2⟩;have e:lo=a₀.size:=ω
  subst e;exact⟨rfl,p,hS⟩
 case step=>
  rintro x c gX _ hx ⟨lo,rfl,kc,oC,h1,h2⟩;dsimp only
  by_cases O:lo ≥ a₀.size
  ·rw[if_pos O]
   have e:lo=a₀.size:=ω
   subst e;exact wpS_pure ⟨rfl,kc,oC⟩
  rw[if_neg O];refine wpS_bind (DX C ω ω kc fun m G l P2 S m2 L=>?_);dsimp only;have v:Seg ρ (arrOf G) 0 (AH G).toList lo:=by rw[P2.pend];exact oC.congr fun k _ b=>P2.arr k b
  have tail:∀(n:Nat)(g:SortSt)(z:ForInStep (Option Unit×Nat)->SortSt->Prop),B κ a₀ g->Seg ρ (arrOf g) 0 (AH g).toList lo->1<=n->lo+n<=a₀.size->bu ρ (arrOf g) lo (lo+n)->
    (∀d,B κ a₀ d->Seg ρ (arrOf d) 0 (AH d).toList (lo+n)->z (.yield (none,lo+n)) d)->
    (∀d,B κ a₀ d->Seg ρ (arrOf d) 0 (AH d).toList lo->bu ρ (arrOf d) lo (lo+n)->wpS (model prog w) A E s (do
     modify fun s=>setPending s ((AH s).push (lo,n,0))
     pure (ForInStep.yield (none,lo+n))) z d):=by
   intro n g z _ _ n1 n2 _ hq d p r T;refine wpS_bind (wpS_modify (wpS_pure (hq _ ⟨p.perm,p.kind,p.failed⟩ ?_)));show Seg ρ (arrOf d) 0 ((AH d).push (lo,n,0)).toList (lo+n);rw[Array.toList_push];exact Seg.app.mpr ⟨lo,r,rfl,n1,T,rfl⟩
  have u:∀(n pw:Nat)(g:SortSt)(f:Nat->Option Unit×Unit->StateT SortSt Sem (ForInStep (Option Unit×Unit))),B κ a₀ g->Seg ρ (arrOf g) 0 (AH g).toList lo->bu ρ (arrOf g) lo (lo+n)->lo+n<=a₀.size->
    (∀x d(z:ForInStep (Option Unit×Unit)->SortSt->Prop),B κ a₀ d->Seg ρ (arrOf d) 0 (AH d).toList lo->z (.done (none,())) d->
     (∀o,B κ a₀ o->Seg ρ (arrOf o) 0 (AH o).toList lo->(∀k,lo<=k->(arrOf o)[k]?=(arrOf d)[k]?)->z (.yield (none,())) o)->wpS (model prog w) A E s (f x (none,())) z d)->
    wpS (model prog w) A E s (forIn [0:a₀.size] (none,()) f) (fun c d=>c=(none,())/\B κ a₀ d/\Seg ρ (arrOf d) 0 (AH d).toList lo/\bu ρ (arrOf d) lo (lo+n)) g:=by
   intro n pw g f D F J hz hf;refine wpS_forRange (I:=fun _ c d=>c=(none,())/\B κ a₀ d/\Seg ρ (arrOf d) 0 (AH d).toList lo/\bu ρ (arrOf d) lo (lo+n)) ?_ (fun _ _ q=>q) ⟨rfl,D,F,J⟩;rintro x c d _ _ ⟨rfl,p,r,T⟩;refine hf x d _ p r ⟨rfl,p,r,T⟩ fun o M N hk=>⟨rfl,M,N,fun i j a b c=>?_⟩;rw[gf (hk i a),gf (hk j ω)];exact T i j a b c
  have whole:∀(n:Nat)(g:SortSt),B κ a₀ g->Seg ρ (arrOf g) 0 (AH g).toList lo->1<=n->lo+n<=a₀.size->bu ρ (arrOf g) lo (lo+n)->True:=fun _ _ _ _ _ _ _=>trivial;have fin2:∀n d,1<=n->lo+n<=a₀.size->B κ a₀ d->Seg ρ (arrOf d) 0 (AH d).toList (lo+n)->∃U,((none,lo+n):Option Unit×Nat)=(none,U)/\B κ a₀ d/\Seg ρ (arrOf d) 0 (AH d).toList U/\U<=a₀.size/\x+1<=U:=
   fun n d n1 n2 b sg=>⟨_,rfl,b,sg,n2,ω⟩
  by_cases P:m<minRun' a₀.size a₀.size 0
  ·rw[if_pos P]
   refine wpS_bind (wpS_lift (wpAny_rule ⟨rfl,?_⟩));refine wpS_bind (DY C ω ω l L fun g D P3 J=>?_);simp only[Bool.not_true,Ai,if_false];have F:Seg ρ (arrOf g) 0 (AH g).toList lo:=by rw[P3.pend];exact v.congr fun k _ b=>P3.arr k b
   refine wpS_bind (wpS_get ?_);cases hb:(AH g).back? with
   |none=>
    dsimp only;exact tail _ g _ D F ω ω J (fun d b sg=>fin2 _ d ω ω b sg) g D F J
   |some y=>
    obtain⟨s1,n1,p1⟩:=y;dsimp only;refine wpS_bind (wpS_mono (u _ 0 g _ D F J ω ?_) ?_)
    ·intro x d z p r q1 W
     refine wpS_bind (wpS_get ?_)
     by_cases hsz:(AH d).size>1
     ·rw[if_pos hsz]
      obtain⟨⟨o1,o2,o3⟩,X⟩:∃y,(AH d)[(AH d).size-2]?=some y:=⟨_,getElem?_pos _ _ ω⟩;rw[X];dsimp only;split
      ·exact wpS_pure q1
      ·refine wpS_bind (rp C p r h1 ω fun o M N _ hk=>?_)
       simp only[Bool.not_true,Ai,if_false];exact wpS_pure (W o M N hk)
     ·rw[if_neg hsz]
      exact wpS_pure q1
    ·rintro c rQ ⟨rfl,H,Y,Z⟩
     dsimp only;refine wpS_bind (wpS_modify ?_);refine tail _ g _ D F ω ω J (fun d b sg=>fin2 _ d ω ω b sg) _ ⟨H.perm,H.kind,H.failed⟩ ?_ Z;exact Y.pow (xB _ _ _)
  ·rw[if_neg P]
   refine wpS_bind (wpS_get ?_);cases hb:(AH G).back? with
   |none=>
    dsimp only;exact tail _ G _ l v S ω L (fun d b sg=>fin2 _ d S ω b sg) G l v L
   |some y=>
    obtain⟨s1,n1,p1⟩:=y;dsimp only;refine wpS_bind (wpS_mono (u _ 0 G _ l v L ω ?_) ?_)
    ·intro x d z p r q1 W
     refine wpS_bind (wpS_get ?_)
     by_cases hsz:(AH d).size>1
     ·rw[if_pos hsz]
      obtain⟨⟨o1,o2,o3⟩,X⟩:∃y,(AH d)[(AH d).size-2]?=some y:=⟨_,getElem?_pos _ _ ω⟩;rw[X];dsimp only;split
      ·exact wpS_pure q1
      ·refine wpS_bind (rp C p r h1 ω fun o M N _ hk=>?_)
       simp only[Bool.not_true,Ai,if_false];exact wpS_pure (W o M N hk)
     ·rw[if_neg hsz]
      exact wpS_pure q1
    ·rintro c rQ ⟨rfl,H,Y,Z⟩
     dsimp only;refine wpS_bind (wpS_modify ?_);refine tail _ G _ l v S ω L (fun d b sg=>fin2 _ d S ω b sg) _ ⟨H.perm,H.kind,H.failed⟩ ?_ Z;exact Y.pow (xB _ _ _)
 case post=>
  rintro c d ⟨rfl,p,r⟩;dsimp only;refine wpS_bind (wpS_mono (wpS_forRange (I:=fun x c o=>c=(none,())/\B κ a₀ o/\Seg ρ (arrOf o) 0 (AH o).toList a₀.size/\((AH o).size<=1\/(AH o).size+x<=a₀.size))
   (Q:=fun c o=>c=(none,())/\B κ a₀ o/\bu ρ (arrOf o) 0 a₀.size) ?fstep ?ffin ⟨rfl,p,r,.inr ?_⟩) ?fpost)
  case ffin=>
   rintro c o ⟨rfl,l,v,hh⟩;exact⟨rfl,l,v.one (by rw[Af];omega)⟩
  case fpost=>
   rintro c o ⟨rfl,l,sr⟩;exact wpS_pure (h _ l sr)
  case fstep=>
   rintro x c o _ hx ⟨rfl,l,v,hh⟩;refine wpS_bind (wpS_get ?_)
   by_cases hsz:(AH o).size<=1
   ·rw[if_pos hsz]
    exact wpS_pure ⟨rfl,l,v.one (by rw[Af];omega)⟩
   ·rw[if_neg hsz]
    refine wpS_bind (rp C l v (Ag _) ?_ fun g D F vF _=>?_)
    ·repeat' split
     all_goals omega
    ·simp only[Bool.not_true,Ai,if_false]
     exact wpS_pure ⟨rfl,D,F,ω⟩
  ·have:=r.le
   rw[Af] at this;omega
end
end Tim
end
section
namespace bu
open PySem PyProof.Rows HT
def rv:∀a:List Int,lexLt a a=false
 |[]=>rfl
 |x::a=>by rw[zN,if_pos rfl];exact rv a
def jv:∀{a b c:List Int},lexLt a b=true->lexLt b c=true->lexLt a c=true
 |[],[],_,h,_=>by cases h
 |[],_::_,[],_,h=>by cases h
 |[],_::_,_::_,_,_=>rfl
 |_::_,[],_,h,_=>by cases h
 |_::_,_::_,[],_,h=>by cases h
 |x::a,y::b,z::c,h1,h2=>by
  rw[zN] at h1 h2 ⊢
  by_cases e1:x=y
  ·rw[if_pos e1] at h1
   by_cases e2:y=z
   ·rw[if_pos e2] at h2
    rw[if_pos (e1.trans e2)];exact jv h1 h2
   ·rw[if_neg e2] at h2
    rw[if_neg ω];have:=of_decide_eq_true h2;exact decide_eq_true ω
  ·rw[if_neg e1] at h1
   have q1:=of_decide_eq_true h1
   by_cases e2:y=z
   ·rw[if_neg ω]
    exact decide_eq_true ω
   ·rw[if_neg e2] at h2
    have d:=of_decide_eq_true h2;rw[if_neg ω];exact decide_eq_true ω
def xC:∀{a b:List Int},lexLt a b=false->lexLt b a=false->a=b
 |[],[],_,_=>rfl
 |[],_::_,h,_=>by cases h
 |_::_,[],_,h=>by cases h
 |x::a,y::b,h1,h2=>by
  rw[zN] at h1 h2
  by_cases e:x=y
  ·subst e
   rw[if_pos rfl] at h1 h2;rw[xC h1 h2]
  ·rw[if_neg e] at h1
   rw[if_neg (Ne.symm e)] at h2;have:=of_decide_eq_false h1;have:=of_decide_eq_false h2;omega
def rk(ls:Ξ)(l:List Int):Int:=((ls.filter fun m=>lexLt m l).length:Nat)
def xD{ls:Ξ}{l m:List Int}(f:l∈ls)(hm:m∈ls):decide (rk ls l<rk ls m)=lexLt l m:=by
 have mono:∀{a b:List Int},(∀x,lexLt x a=true->lexLt x b=true)->∀k:Ξ,(k.filter fun x=>lexLt x a).length<=(k.filter fun x=>lexLt x b).length:=by
  intro a b d k
  induction k with
  |nil=>exact Ag _
  |cons x k ih=>
   rw[List.filter_cons,List.filter_cons]
   by_cases q:lexLt x a=true
   ·rw[if_pos q,if_pos (d x q),Ap,Ap];omega
   ·rw[if_neg q]
    split
    ·rw[Ap];omega
    ·exact ih
 have c:∀{a b:List Int},(∀x,lexLt x a=true->lexLt x b=true)->lexLt a b=true->∀k:Ξ,a∈k->(k.filter fun x=>lexLt x a).length<(k.filter fun x=>lexLt x b).length:=by
  intro a b d h k
  induction k with
  |nil=>intro q;cases q
  |cons x k ih=>
   intro hk;rw[List.filter_cons,List.filter_cons];rcases List.mem_cons.mp hk with e|e
   ·subst e
    rw[if_neg (by rw[rv];exact Ax),if_pos h,Ap];have:=mono d k;omega
   ·have:=ih e
    by_cases q:lexLt x a=true
    ·rw[if_pos q,if_pos (d x q),Ap,Ap];omega
    ·rw[if_neg q]
     split
     ·rw[Ap];omega
     ·exact this
 unfold rk;cases q:lexLt l m with
 |true=>
  have:=c (a:=l) (b:=m) (fun x hx=>jv hx q) q ls f;exact decide_eq_true ω
 |false=>
  have:=mono (a:=m) (b:=l) (fun x hx=>by
   cases z:lexLt x l with
   |true=>rfl
   |false=>
    cases z2:lexLt l x with
    |true=>rw[jv z2 hx] at q;cases q
    |false=>rw[xC z z2] at hx;rw[hx] at q;cases q) ls
  exact decide_eq_false ω
structure By(prog:Program)(w:World)(A:Around)(good:Heap->Prop)(us:List Value)(ls:Ξ):Prop where
 len:us.length=ls.length
 fn:∀(i j:Nat) u l m,us[i]?=some u->us[j]?=some u->ls[i]?=some l->ls[j]?=some m->l=m
 ask:2<=us.length->∃κ:SortKind,(∀(s:Shared)(Q:SortKind->Shared->Prop)(E:Ω),good s.heap->Q κ s->wpAny (model prog w) A (keyKind' us.toArray) Q E s)/\
  ∀(i j:Nat) u v l m,us[i]?=some u->us[j]?=some v->ls[i]?=some l->ls[j]?=some m->∀(s:Shared)(Q:Bool->Shared->Prop)(E:Ω),good s.heap->Q (lexLt l m) s->wpAny (model prog w) A (keyLt' κ u v) Q E s
open Classical in
noncomputable def jx(us:List Value)(ls:Ξ)(u:Value):List Int:=if h:∃l,∃i:Nat,us[i]?=some u/\ls[i]?=some l then h.choose else []
def kO{us:List Value}{ls:Ξ}(fn:∀(i j:Nat) u l m,us[i]?=some u->us[j]?=some u->ls[i]?=some l->ls[j]?=some m->l=m){i:Nat}{u:Value}{l:List Int}(h1:us[i]?=some u)(h2:ls[i]?=some l):jx us ls u=l:=by
 unfold jx;have h:∃l,∃i:Nat,us[i]?=some u/\ls[i]?=some l:=⟨l,i,h1,h2⟩;rw[dif_pos h];obtain⟨j,e1,e2⟩:=h.choose_spec;exact fn j i u _ l e1 h1 e2 h2
noncomputable def jz(us:List Value)(ls:Ξ)(p:Keyed):Int:=rk ls (jx us ls p.1)
section
variable{prog:Program}{w:World}{A:Around}{E:Ω}{s:Shared}{good:Heap->Prop}{us vs:List Value}{ls:Ξ}
def nf(h:us.length=vs.length){p:Keyed}(hp:p∈(us.toArray.zip vs.toArray).toList):∃i:Nat,us[i]?=some p.1/\vs[i]?=some p.2:=by
 have e:(us.toArray.zip vs.toArray).toList=us.zip vs:=by simp
 rw[e] at hp;obtain⟨i,hi,e2⟩:=List.mem_iff_getElem.mp hp;rw[List.getElem_zip] at e2;rw[List.length_zip] at hi;refine⟨i,?_,?_⟩
 ·rw[Ao ω,<-e2]
 ·rw[Ao ω,<-e2]
def Ed(B:By prog w A good us ls)(d:us.length=vs.length)(g:good s.heap){κ:SortKind}(h2:2<=us.length)(q:us.length<1000)(hk:∀(i j:Nat) u v l m,us[i]?=some u->us[j]?=some v->ls[i]?=some l->ls[j]?=some m->∀(s:Shared)(Q:Bool->Shared->Prop)(E:Ω),good s.heap->Q (lexLt l m) s->wpAny (model prog w) A (keyLt' κ u v) Q E s){Q:Unit->SortSt->Prop}(h:∀a,(arrOf a).Perm (us.toArray.zip vs.toArray)->failedOf a=none->Tim.bu (jz us ls) (arrOf a) 0 vs.length->Q () a):wpS (model prog w) A E s sortRuns' Q (SortSt.mk' κ (us.toArray.zip vs.toArray) #[] 7 none):=by
 have f:(us.toArray.zip vs.toArray).size=vs.length:=by simp;omega
 refine Tim.Ec (κ:=κ) (a₀:=us.toArray.zip vs.toArray) (ρ:=jz us ls) ⟨fun x y hx hy o p hq=>?_⟩ ⟨Array.Perm.refl _,rfl,rfl⟩ rfl fun a b e=>h a b.perm b.failed (by rw[<-f];exact e);obtain⟨i,e1,_⟩:=nf d hx;obtain⟨j,e2,_⟩:=nf d hy;have hi:i<ls.length:=by rw[<-B.len];exact(List.getElem?_eq_some_iff.mp e1).1
 have c:j<ls.length:=by rw[<-B.len];exact(List.getElem?_eq_some_iff.mp e2).1
 have f1:ls[i]?=some ls[i]:=Ao hi;have f2:ls[j]?=some ls[j]:=Ao c;refine hk i j _ _ _ _ e1 e2 f1 f2 s o p g ?_;unfold jz at hq;rw[kO B.fn e1 f1,kO B.fn e2 f2,xD (List.getElem_mem hi) (List.getElem_mem c)] at hq;exact hq
def bK{a c:Type}:∀(l:List a)(m:List c)(i:Nat),(l.zip m)[i]?=(l[i]?).bind fun x=>(m[i]?).map fun y=>(x,y)
 |[],m,i=>by simp
 |x::l,[],i=>by cases h:(x::l)[i]?<;>simp
 |x::l,y::m,0=>rfl
 |x::l,y::m,i+1=>by
  rw[List.zip_cons_cons,List.getElem?_cons_succ,List.getElem?_cons_succ,List.getElem?_cons_succ];exact bK l m i
def Ee(B:By prog w A good us ls)(r:us.length=vs.length){xs:Array Keyed}(hp:xs.Perm (us.toArray.zip vs.toArray))(hs:Tim.bu (jz us ls) xs 0 vs.length):∃ps:List (List Int×Value),ps.Perm (ls.zip vs)/\xs.toList.map (·.2)=ps.map (·.2)/\ps.Pairwise fun(a b:List Int×Value)=>HT.lexLt b.1 a.1=false:=by
 have f:xs.toList.Perm (us.zip vs):=by
  have:=Array.perm_iff_toList_perm.mp hp
  simpa using this
 refine⟨xs.toList.map fun p=>(jx us ls p.1,p.2),?_,by rw[AK];rfl,?_⟩
 ·have e:(us.zip vs).map (fun p:Keyed=>(jx us ls p.1,p.2))=ls.zip vs:=by
   apply List.ext_getElem?;intro i;rw[Ar,bK,bK];cases e1:us[i]? with
   |none=>
    have:ls[i]?=none:=List.getElem?_eq_none (by rw[<-B.len];exact List.getElem?_eq_none_iff.mp e1);rw[this];rfl
   |some u=>
    have hi:i<ls.length:=by rw[<-B.len];exact(List.getElem?_eq_some_iff.mp e1).1
    have f1:ls[i]?=some ls[i]:=Ao hi;rw[f1];cases e2:vs[i]? with
    |none=>rfl
    |some v=>
     show some (jx us ls u,v)=some (ls[i],v);rw[kO B.fn e1 f1]
  rw[<-e];exact f.map _
 ·rw[List.pairwise_map,List.pairwise_iff_getElem]
  intro i j hi o g;have hsz:xs.size=vs.length:=by
   have:=f.length_eq;rw[Af,List.length_zip] at this;omega
  rw[Af] at hi o;have q:=hs i j (AW _) (Nat.le_of_lt g) ω;have s:xs[i]?=some xs[i]:=getElem?_pos xs i hi;have x:xs[j]?=some xs[j]:=getElem?_pos xs j o;rw[Tim.aL s,Tim.aL x] at q;simp only[Array.getElem_toList];obtain⟨h,g1,_⟩:=nf r (p:=xs[i]) (by
   have:=f.mem_iff.mp (show xs[i]∈xs.toList by simp)
   simpa using this)
  obtain⟨l,g2,_⟩:=nf r (p:=xs[j]) (by
   have:=f.mem_iff.mp (show xs[j]∈xs.toList by simp)
   simpa using this)
  have c:h<ls.length:=by rw[<-B.len];exact(List.getElem?_eq_some_iff.mp g1).1
  have d:l<ls.length:=by rw[<-B.len];exact(List.getElem?_eq_some_iff.mp g2).1
  have f1:ls[h]?=some ls[h]:=Ao c;have f2:ls[l]?=some ls[l]:=Ao d;unfold jz at q;rw[kO B.fn g1 f1,kO B.fn g2 f2] at q ⊢;have:=xD (ls:=ls) (List.getElem_mem d) (List.getElem_mem c);rw[<-this];exact decide_eq_false ω
end
end bu
end
section
namespace bu
open PySem PyProof.Rows PySem.W
section
variable{prog:Program}{w:World}{A:Around}{E:Ω}{s:Shared}{good:Heap->Prop}{us vs:List Value}{ls:Ξ}
def xF{ns:List Int}(hi:IntsAre us ns):By prog w A (fun _=>True) us (ns.map fun n=>[n]):=by
 have c:=hi.length;have a:∀(i:Nat) u l,us[i]?=some u->(ns.map fun n=>[n])[i]?=some l->∃n t,u=.int n t/\l=[n]:=fun i u l h1 h2=>by
  obtain⟨t,e⟩:=IntsAre.int_at hi i u h1;rw[Ar] at h2;cases e2:ns[i]? with
  |none=>rw[e2] at h2;cases h2
  |some n=>
   rw[e2] at h2;have e3:ns.getD i 0=n:=by rw[List.getD_eq_getElem?_getD,e2];rfl
   rw[e3] at e;exact⟨n,t,e,(As h2).symm⟩
 refine⟨by rw[Ab,c],fun i j u l m h1 h2 f g=>?_,fun h2=>⟨oneType',fun s Q E _ hq=>?_,fun i j u v l m h1 h2 f g s Q E _ hq=>?_⟩⟩
 ·obtain⟨n,t,e1,rfl⟩:=a i u l h1 f
  obtain⟨d,t',e2,rfl⟩:=a j u m h2 g;rw[e1] at e2;cases e2
  rfl
 ·match us,hi,h2 with
  |[],_,h2=>simp at h2
  |[_],_,h2=>simp at h2
  |v₁::v₂::rest,hi,_=>
   rw[keyKind_ints hi];exact Ad hq
 ·obtain⟨n,t,rfl,rfl⟩:=a i u l h1 f
  obtain⟨d,t',rfl,rfl⟩:=a j v m h2 g;refine kat_lt_int ?_;have:HT.lexLt [n] [d]=decide (n<d):=by
   rw[HT.zN]
   by_cases e:n=d
   ·rw[if_pos e,HT.wT];exact(decide_eq_false ω).symm
   ·rw[if_neg e]
  rw[this] at hq;exact hq
def IsPr(h:Heap)(u:Value)(l:List Int):Prop:=∃(a b:Addr)(n:Int)(t:Tok)(c:List Value)(ps:List Int),u=.ref a/\l=n::ps/\IsTup h a #[.int n t,.ref b]/\IsTup h b c.toArray/\IntsAre c ps
def IsTup.inj{h:Heap}{a:Addr}{xs ys:Array Value}(h1:IsTup h a xs)(h2:IsTup h a ys):xs=ys:=by
 obtain⟨o,e,_,n,d⟩:=h1;obtain⟨o',c,_,f,d'⟩:=h2;rw[e] at c;cases c;rw[d] at d';injection d'
def IntsAre.inj{vs:List Value}{ns a:List Int}(h:IntsAre vs ns)(g:IntsAre vs a):ns=a:=by
 induction h generalizing a with
 |nil=>cases g;rfl
 |cons n t h ih=>cases g with|cons _ _ h'=>rw[ih h']
def IsPr.inj{h:Heap}{u:Value}{l m:List Int}(h1:IsPr h u l)(h2:IsPr h u m):l=m:=by
 obtain⟨a,b,n,t,c,ps,rfl,rfl,d,f,i1⟩:=h1;obtain⟨o,p,q,t',its',r,e,rfl,g,i,j⟩:=h2;cases e;have:=bu.IsTup.inj d g;cases this;have e2:=bu.IsTup.inj f i;have e3:c=its':=by simpa using e2
 subst e3;rw[IntsAre.inj i1 j]
def Ef{x y:Value}{l m:List Int}{Q:Bool->Shared->Prop}(h1:IsPr s.heap x l)(h2:IsPr s.heap y m)(hu:A.units<cLine)(hq:Q (HT.lexLt l m) s):wpAny (model prog w) A (keyLt' (tuples' true) x y) Q E s:=by
 obtain⟨a,b,n,t,L,ps,rfl,rfl,H,u,i1⟩:=h1;obtain⟨M,v,g,t',its',C,rfl,rfl,I,D,F⟩:=h2;obtain⟨o,e,hc,k,d⟩:=id H;obtain⟨o',J,N,O,d'⟩:=id I;refine kat_lt e d J d' ?_;show KatLex prog w A true (decide (2<2)) Q [(.int n t,.int g t'),(.ref b,.ref v)] 0 s;rw[HT.zN] at hq;refine kat_cons (Bb (SeqAt.EqAt.int_int n t g t' prog w (fun _ _=>False) _ ⟨rfl,rfl⟩:wpAny (model prog w) A (eqBool (.int n t) (.int g t')) (fun e s'=>e=(n==g)/\s'=s) (fun _ _=>False) s) (fun e1 j he=>?_) fun _ _ z=>z);obtain⟨rfl,rfl⟩:=he
 by_cases p:n=g
 ·have r:(n==g)=true:=by simpa using p
  rw[r];rw[if_pos p] at hq;refine kat_yes (kat_cons ?_);have G:∀{c:Addr}{cs:List Value}{i:List Int},IsTup j.heap c cs.toArray->IntsAre cs i->AZ (L2.zH prog w) j.heap (i.map Sum.inl) c:=fun{c cs i} hc hi=>by
   obtain⟨o,e,q,k,d⟩:=hc;refine⟨o,cs.toArray,k,e,q,d,?_⟩;have:∀{cs:List Value}{i:List Int},IntsAre cs i->ItemsAre (L2.zH prog w) (i.map Sum.inl) cs:=by
    intro cs i hi
    induction hi with
    |nil=>exact .nil
    |cons n t h ih=>exact .cons (L2.oW prog w n t) ih
   simpa using this hi
  refine wpAny_eqBool_tuple (knd:=L2.zH prog w) hu (G u i1) (G D F) ?_
  by_cases ep:ps=C
  ·subst ep
   rw[decide_eq_true rfl];rw[rv] at hq;exact kat_yes (kat_nil hq)
  ·have:¬(ps.map Sum.inl:List L2.Key)=C.map Sum.inl:=fun z=>ep (List.map_inj_right (f:=(Sum.inl:Int->L2.Key)) (fun x y h=>Sum.inl.inj h)|>.mp z)
   rw[decide_eq_false this];refine kat_no ?_;show wpAny (model prog w) A (oneLt' false (.ref b) (.ref v)) Q (fun _ _=>False) j;exact kat_one _ _ (HT.Dp u D (by simpa using i1) (by simpa using F) hu hq)
 ·have r:(n==g)=false:=by simpa using p
  rw[r];rw[if_neg p] at hq;refine kat_no ?_;show wpAny (model prog w) A (oneLt' true (.int n t) (.int g t')) Q (fun _ _=>False) j;exact oneLt_int hq
def xG{h:Heap}:∀{us:List Value}{ls:Ξ},us.length=ls.length->(∀(i:Nat) u l,us[i]?=some u->ls[i]?=some l->IsPr h u l)->∃fs,KatTups h us fs/\fs.length=us.length/\∀f∈fs,∃n t,f=Value.int n t
 |[],[],_,_=>⟨[],.nil,rfl,fun f hf=>nomatch hf⟩
 |u::us,l::ls,hl,hp=>by
  obtain⟨fs,c,g,j⟩:=xG (us:=us) (ls:=ls) (by simpa using hl) fun i u l h1 h2=>hp (i+1) u l (by simpa using h1) (by simpa using h2);obtain⟨a,b,n,t,q,ps,rfl,rfl,p,r,i1⟩:=hp 0 u l rfl rfl;obtain⟨o,e,hc,k,d⟩:=id p;refine⟨.int n t::fs,.cons e hc d rfl c,by simp[g],fun f hf=>?_⟩;rcases List.mem_cons.mp hf with rfl|hf
  ·exact⟨n,t,rfl⟩
  ·exact j f hf
 |[],_::_,h,_=>by simp at h
 |_::_,[],h,_=>by simp at h
def xH(g:us.length=ls.length)(hu:A.units<cLine)(q:∃h,good h)(hp:∀h,good h->∀(i:Nat) u l,us[i]?=some u->ls[i]?=some l->IsPr h u l):By prog w A good us ls:=by
 refine⟨g,fun i j u l m h1 h2 c d=>?_,fun h2=>⟨tuples' true,fun s Q E a hq=>?_,fun i j u v l m h1 h2 c d s Q E a hq=>?_⟩⟩
 ·obtain⟨h,e⟩:=q
  exact(hp h e i u l h1 c).inj (hp h e j u m h2 d)
 ·obtain⟨fs,o,r,p⟩:=xG g (hp _ a)
  refine kat_kind (T:=.type "int") o ω (fun f hf=>?_) ξ hq;obtain⟨n,t,rfl⟩:=p f hf;exact Looks.of_pure rfl
 ·exact Ef (hp _ a i u l h1 c) (hp _ a j v m h2 d) hu hq
end
def Out(ls:Ξ)(vs out:List Value):Prop:=∃ps:List (List Int×Value),ps.Perm (ls.zip vs)/\out=ps.map (·.2)/\ps.Pairwise fun(a b:List Int×Value)=>HT.lexLt b.1 a.1=false
section
variable{prog:Program}{w:World}{A:Around}{E:Ω}{s:Shared}{good:Heap->Prop}{us vs:List Value}{ls:Ξ}
def Eg(c:ls.length=vs.length)(hu:us.length=vs.length)(h2:vs.length<2):Out ls vs ((us.toArray.zip vs.toArray).map (·.2)).toList:=by
 have e:((us.toArray.zip vs.toArray).map (·.2)).toList=vs:=by
  rw[Array.toList_map,show(us.toArray.zip vs.toArray).toList=us.zip vs by simp,List.map_snd_zip ω]
 rw[e];refine⟨ls.zip vs,List.Perm.refl _,by rw[List.map_snd_zip ω],?_⟩;have a:(ls.zip vs).length<2:=by rw[List.length_zip];omega
 match ls.zip vs,a with
 |[],_=>exact List.Pairwise.nil
 |[x],_=>simp
 |_::_::_,h=>simp only[Ap] at h;omega
def xI(B:By prog w A good us ls)(d:us.length=vs.length)(l:vs.length<1000)(j:good s.heap){P:PySem.Fin->Shared->Prop}{G:Unit×SortSt->Sem PySem.Fin}(h:∀a,Out ls vs ((arrOf a).map (·.2)).toList->(arrOf a).size=vs.length->failedOf a=none->wpAny (model prog w) A (G (PUnit.unit,a)) P E s):wpAny (model prog w) A (if vs.toArray.size<2 then(pure general' >>= fun kind=>(if vs.toArray.size<2 then pure () else sortRuns').run (SortSt.mk' kind (us.toArray.zip vs.toArray) #[] 7 none) >>= G)
   else(keyKind' us.toArray >>= fun kind=>(if vs.toArray.size<2 then pure () else sortRuns').run (SortSt.mk' kind (us.toArray.zip vs.toArray) #[] 7 none) >>= G)) P E s:=by
 have c:(us.toArray.zip vs.toArray).size=vs.length:=by rw[Array.size_zip,Am,Am];omega
 by_cases h2:vs.toArray.size<2
 ·rw[if_pos h2]
  refine Aa (Ad ?_);rw[if_pos h2];rw[StateT.run_pure];refine Aa (Ad ?_)
  try dsimp only
  rw[Am] at h2;exact h (SortSt.mk' general' (us.toArray.zip vs.toArray) #[] 7 none) (Eg (by rw[<-B.len];exact d) d h2) c rfl
 ·rw[if_neg h2,if_neg h2]
  rw[Am] at h2;obtain⟨κ,k1,k2⟩:=B.ask ω;refine Aa (k1 s _ E j ?_);refine Aa (Bb (Ed (Q:=fun _ a=>(arrOf a).Perm (us.toArray.zip vs.toArray)/\failedOf a=none/\Tim.bu (jz us ls) (arrOf a) 0 vs.length) B d j ω ω k2 fun a f g i=>⟨f,g,i⟩) ?_ fun _ _ e=>e);rintro⟨⟨⟩,a⟩ s' ⟨rfl,hp,hf,hs⟩
  try dsimp only
  exact h a (by
   obtain⟨ps,f,g,i⟩:=Ee B d hp hs;exact⟨ps,f,by rw[Array.toList_map];exact g,i⟩) (by rw[hp.size_eq];exact c) hf
def xJ{a:Addr}{n:Nat}{P:PySem.Fin->Shared->Prop}(c:s.heap.get? a=some (seqObj "list" vs.toArray n))(B:By prog w A good vs ls)(j:∀h',(∀b o,b≠a->s.heap.get? b=some o->h'.get? b=some o)->good h')(d:vs.length<=sizeLine)(l:vs.length<1000)(h:∀out:Array Value,Out ls vs out.toList->P (.done (.ret .none)) {s with heap:=sortedHeap s.heap a vs out}):wpAny (model prog w) A (Builtin.«list.sort» ⟨[.ref a],[]⟩) P E s:=by
 rw[list_sort_plain];have g:a<s⁻¹:=Ah c;refine Aa (listItems_at c rfl ?_);refine Aa (listUpdate_at c rfl ?_ (by rw[Am];exact d) (AW _));obtain⟨e1,f⟩:∃e1,(s.heap.update a (AJ fun _=>#[])).get? a=some (seqObj "list" #[] e1):=⟨_,get?_update_seq c (fun _=>#[])⟩;refine Aa (seqEpoch_at f rfl ?_);refine Aa (wpAny_newTuple ?_ (by show vs.length<=_;exact d));refine Aa (wpAny_newList ?_ (AW _));refine A0 ?_;have i:(((s.heap.update a (AJ fun _=>#[])).push (seqObj "tuple" vs.toArray 0)).push (seqObj "list" #[] 0)).get? a=some (seqObj "list" #[] e1):=by
  rw[Heap.get?_push_ne _ _ _ (by rw[size_push',AO];exact Al (AF g)),Heap.get?_push_ne _ _ _ (by rw[AO];exact Al g)];exact f
 show wpAny (model prog w) A _ P E {s with heap:=((s.heap.update a (AJ fun _=>#[])).push (seqObj "tuple" vs.toArray 0)).push (seqObj "list" #[] 0)};dsimp only;refine xI (s:={s with heap:=((s.heap.update a (AJ fun _=>#[])).push (seqObj "tuple" vs.toArray 0)).push (seqObj "list" #[] 0)}) B rfl l (j _ fun b o hb e=>Ac _ (Ac _ (by rw[Heap.get?_update_ne _ _ _ _ hb];exact e))) fun p c hsz hf=>?_;dsimp only;refine Aa (seqEpoch_at i rfl ?_);refine Aa (listUpdate_at i rfl ?_ (AW _) (AA (Nat.le_of_eq ((A3 ..).trans hsz)) (Nat.le_succ_of_le d)));rw[hf];simp only[bne_self_eq_false,Ai,if_false];exact Ad (h _ c)
def xL{l:Addr}{Q:Ω}(f:s.heap.IsList l vs.toArray)(B:By prog w A.in1.in1 good vs ls)(g:∀h',(∀b o,s.heap.get? b=some o->h'.get? b=some o)->good h')(d:vs.length<=sizeLine)(i:vs.length<1000)(h:∀out:Array Value,Out ls vs out.toList->Q (.ref (s⁻¹+1)) {s with heap:=sortedAll s.heap vs out}):wpAny (model prog w) A (call (.builtin "sorted") [.ref l]) Q E s:=by
 refine Calls.call_function_entry kind_sorted plain_sorted entry_sorted (args_sorted1 _) ?_;unfold Builtin.«sorted»;refine Aa (m:=checkCount "sorted" 1 1 _) (Ad ?_);refine Aa (collect_list f ?_ d);refine Aa (wpAny_newList ?_ d);have hsz:((s.heap.push (seqObj "list" #[] 0)).update s⁻¹ (AJ (·++vs.toArray))).objs.size=s⁻¹+1:=by
  rw[AO,size_push']
 have c:(((s.heap.push (seqObj "list" #[] 0)).update s⁻¹ (AJ (·++vs.toArray))).push (seqObj "list" vs.toArray 0)).get? (s⁻¹+1)=some (seqObj "list" vs.toArray 0):=by
  rw[<-hsz];exact Av _ rfl
 have keep:∀b o,s.heap.get? b=some o->(((s.heap.push (seqObj "list" #[] 0)).update s⁻¹ (AJ (·++vs.toArray))).push (seqObj "list" vs.toArray 0)).get? b=some o:=fun b o q=>by
  have a:b<s⁻¹:=Ah q;rw[Heap.get?_push_ne _ _ _ (by rw[hsz];exact Al (AF a)),Heap.get?_update_ne _ _ _ _ (Al a),Heap.get?_push_ne _ _ _ (Al a)];exact q
 show wpAny _ _ _ _ _ {s with heap:=((s.heap.push (seqObj "list" #[] 0)).update s⁻¹ (AJ (·++vs.toArray))).push (seqObj "list" vs.toArray 0)};rw[hsz];refine Aa (A0 (Ba slot_list_sort ⟨_,c,rfl⟩ entry_list_sort (xJ (s:={s with heap:=((s.heap.push (seqObj "list" #[] 0)).update s⁻¹ (AJ (·++vs.toArray))).push (seqObj "list" vs.toArray 0)}) c B (fun h' hk=>g h' fun b o q=>hk b o (Al (AF (Ah q))) (keep b o q)) d i fun out e=>⟨_,rfl,?_⟩) (args_list_sort _)));exact Ad ⟨_,rfl,h out e⟩
def Eh{a kS:Addr}{l:Array Value}{e e1:Nat}{st:SortSt}{P:PySem.Fin->Shared->Prop}(p:s.heap.get? kS=some (seqObj "list" l e))(v:s.heap.get? a=some (seqObj "list" #[] e1))(r:kS≠a)(x:l.size<=sizeLine)(y:Out ls vs ((arrOf st).map (·.2)).toList)(hsz:(arrOf st).size=vs.length)(z:vs.length<=sizeLine)(g:failedOf st=none)(h:∀h' out c,(∀b o,b≠kS->b≠a->s.heap.get? b=some o->h'.get? b=some o)->h'.get? a=some (seqObj "list" out c)->(∃o,h'.get? kS=some o)->Out ls vs out.toList->h'.objs.size=s⁻¹->P (.done (.ret .none)) {s with heap:=h'}):wpAny (model prog w) A (ksk_tail a false e1 (.ref kS) st) P E s:=by
 have i:=A6 s.heap kS (AJ fun _=>(#[]:Array Value));have f:(s.heap.update kS (AJ fun _=>(#[]:Array Value))).get? a=some (seqObj "list" #[] e1):=(i.2 a r.symm).trans v;have j:=A6 (s.heap.update kS (AJ fun _=>(#[]:Array Value))) a (AJ fun _=>(arrOf st).map (·.2));obtain⟨d,u⟩:∃d,((s.heap.update kS (AJ fun _=>(#[]:Array Value))).update a (AJ fun _=>(arrOf st).map (·.2))).get? a=some (seqObj "list" ((arrOf st).map (·.2)) d):=
  ⟨_,get?_update_seq f fun _=>(arrOf st).map (·.2)⟩
 unfold ksk_tail
 try dsimp only
 simp only[Ai,if_false];refine Aa (listUpdate_at p rfl ?_ x (AW _));refine Aa (wpAny_letGo ?_);refine Aa (seqEpoch_at f rfl ?_);refine Aa (listUpdate_at f rfl ?_ (AW _) (AA (Nat.le_of_eq ((A3 ..).trans hsz)) (Nat.le_succ_of_le z)));rw[g];simp only[bne_self_eq_false,Ai,if_false];refine Ad (h _ _ d (fun b o h1 h2 q=>(j.2 b h2).trans ((i.2 b h1).trans q)) u ⟨_,(j.2 kS r).trans (get?_update_seq p fun _=>#[])⟩ y (by rw[AO,AO]))
end
end bu
end
section
namespace L2
open PySem PySem.Spec PyProof.Rows
def clOf(cells:List (Str×Addr)):List (Str×NameKind)->List (Str×Addr)->List (Str×Addr)
 |[],acc=>acc
 |(n,k)::r,acc=>if(k==.free)=true then clOf cells r ((n,(cells.lookup n).getD 0)::acc) else clOf cells r acc
def xM{env:Env}:∀(names:List (Str×NameKind))(acc:List (Str×Addr)),(∀x∈names,x.2=.free->∃c,env.cells.lookup x.1=some c)-> (forIn names acc fun x(r:List (Str×Addr))=>if(x.2==.free)=true then do let c <-cellOf env x.1;pure (ForInStep.yield ((x.1,c)::r)) else pure (ForInStep.yield r):Sem (List (Str×Addr)))=pure (clOf env.cells names acc)
 |[],acc,_=>rfl
 |(n,k)::r,acc,h=>by
  rw[List.forIn_cons];have d:=fun a=>xM (env:=env) r a fun x hx=>h x (An _ hx);unfold clOf
  by_cases hk:(k==Bf)=true
  ·have hk':k=.free:=by cases k<;>first|rfl|cases hk
   obtain⟨c,hc⟩:=h (n,k) Aj hk';simp only[hk,if_true];unfold cellOf;rw[hc];simp only[pure_bind,Option.getD_some];exact d _
  ·simp only[hk,Ai,if_false,pure_bind]
   exact d _
def rx{scope:Scope}{env:Env}(h:∀x∈scope.names,x.2=.free->∃c,env.cells.lookup x.1=some c):closureFor scope env=pure (clOf env.cells scope.names []):=by
 rw[<-xM scope.names [] h];unfold closureFor;simp
def nh{cells:List (Str×Addr)}{x:Str}{c:Addr}:∀{names:List (Str×NameKind)}{acc:List (Str×Addr)},(∀y∈names,y.2=.free->∃d,cells.lookup y.1=some d)->(∀p∈acc,cells.lookup p.1=some p.2)->(clOf cells names acc).lookup x=some c->cells.lookup x=some c
 |[],acc,_,ha,h=>ha (x,c) (AV h)
 |(n,k)::r,acc,hn,ha,h=>by
  unfold clOf at h;have e:∀y∈r,y.2=.free->∃d,cells.lookup y.1=some d:=fun y hy=>hn y (An _ hy)
  by_cases hk:(k==Bf)=true
  ·have hk':k=.free:=by cases k<;>first|rfl|cases hk
   obtain⟨d,hd⟩:=hn (n,k) Aj hk';rw[if_pos hk] at h;refine nh e (fun p hp=>?_) h;rcases List.mem_cons.mp hp with rfl|hp
   ·show cells.lookup n=some ((cells.lookup n).getD 0)
    have a:cells.lookup n=some d:=hd;rw[a];rfl
   ·exact ha p hp
  ·rw[if_neg hk] at h
   exact nh e ha h
def zu{x:Str}{c:Addr}:∀{l:List (Str×Addr)},(x,c)∈l->∃d,l.lookup x=some d
 |[],h=>nomatch h
 |(y,d)::l,h=>by
  rw[Bj]
  by_cases e:x=y
  ·subst e;exact⟨d,by simp⟩
  ·have hb:(x==y)=false:=by simpa using e
   rw[hb];rcases List.mem_cons.mp h with q|q
   ·cases q;exact absurd rfl e
   ·exact zu q
def g_{cells:List (Str×Addr)}{x:Str}:∀{names:List (Str×NameKind)}{acc:List (Str×Addr)},((x,Bf)∈names\/∃c,(x,c)∈acc)->∃c,(x,c)∈clOf cells names acc
 |[],acc,h=>h.elim (fun q=>nomatch q) id
 |(n,k)::r,acc,h=>by
  unfold clOf
  by_cases hk:(k==Bf)=true
  ·rw[if_pos hk]
   refine g_ ?_;rcases h with h|⟨c,h⟩
   ·rcases List.mem_cons.mp h with q|q
    ·cases q;exact .inr ⟨_,Aj⟩
    ·exact .inl q
   ·exact .inr ⟨c,An _ h⟩
  ·rw[if_neg hk]
   refine g_ ?_;rcases h with h|h
   ·rcases List.mem_cons.mp h with q|q
    ·cases q;exact absurd rfl hk
    ·exact .inl q
   ·exact .inr h
def cxC(X:Cx)(scope:Scope)(N:List Str)(a:List (Str×Addr))(C:Addr)(s₀:Shared)(H₀:Hp)(ex:List Addr):Cx where
 prog:=X.prog
 w:=X.w
 K:=X.K
 mg:=X.mg
 base:=X.base
 A:=X.A
 N:=N
 s₀:=s₀
 H₀:=H₀
 env:=compEnvC scope a C X.env
 outer:=X.stack
 stack:=X.stack
 ex:=ex
 fn:=fun _=>false
 calm:=X.calm
 pn:=X.pn
 xe:=fun _ _=>False
def dh(X:Cx)(aD:List Expr)(t:TT):Prop:=
 ∀(aa:Ψ)(s:Shared)(σ:St)(H:Hp)(Q:Bool->Hp->Prop),Inv X aa σ H s->t σ H Q->
  wpAny (model X.prog X.w) X.A (forIn aD true fun c r=>if r=true then do let ok <-isTrue c X.env (eval c X.env);pure (ForInStep.yield ok) else pure (ForInStep.yield r)) (TP X aa σ Q) X.xe s
def bN:TT:=fun _ H Q=>Q true H
def zG{X:Cx}:dh X [] bN:=fun _ _ _ H _ I h=>wpAny_tests_nil ⟨H,I,h⟩
def nk{X:Cx}{c:Expr}{t:TT}(h:PT X c t):dh X [c] t:=fun aa s σ H Q I hw=>wpAny_tests_one (h aa s σ H Q I hw)
def fq(ap:List (Option Nat))(σ:St):St:=ap.map fun c=>match c with
 |none=>none
 |some j=>(σ[j]?).getD none
def cw(J:It)(g:TG)(tc:TT)(te:TE)(σ:St)(H1:Hp)(D:Addr)(Q:VK):Prop:=
 ∃W:Nat->Nat->St->Hp->Prop,(∃m,W 0 m σ (upd H1 D (.lst [])))/\
 ∀i m d H2,W i m d H2->(J.stop i H2/\Q (.ref D) H2)\/(J.go i H2/\∀x h,J.yld i H2 x h->g x d h fun c j=>tc c j fun b e=>
  if b=true then te c e fun y f=>∃ys a,f D=some (.lst ys)/\ys.length<sizeLine/\a<m/\W (i+1) a c (upd f D (.lst (ys++[y])))
  else ∃a,a<m/\W (i+1) a c e)
def er(wi:TI)(ap:List (Option Nat))(g:TG)(tc:TT)(te:TE):TE:=fun σ H Q=>wi σ H fun J H1=>∀D,H1 D=none->cw J g tc te (fq ap σ) H1 D Q
def hF(N N':List Str)(ap:List (Option Nat))(scope:Scope):Prop:=
 ap.length=N'.length/\∀i j:Nat,ap[i]?=some (some j)->∃x:Str,N'[i]?=some x/\N[j]?=some x/\scope.names.lookup x=some .free
section
variable{X:Cx}{scope:Scope}{N':List Str}{ap:List (Option Nat)}{tg iter aI:Expr}{aD:List Expr}{wi:TI}{g:TG}{tc:TT}{te:TE}{pos:Pos}
def kP{scope:Scope}{env:Env}{x:Str}:∀{names:List (Str×NameKind)},(names.lookup x=some .free\/names.lookup x=some .cell)-> ((names.map fun(n,k)=>if(k==Bf&&env.scope.kind==.function&&env.kindOf n==some .cell) then(n,NameKind.cell) else(n,k)).lookup x=some .free \/
   (names.map fun(n,k)=>if(k==Bf&&env.scope.kind==.function&&env.kindOf n==some .cell) then(n,NameKind.cell) else(n,k)).lookup x=some .cell)
 |[],h=>by simp at h
 |(n,k)::r,h=>by
  have a:=@kP scope env x r;show List.lookup x ((if(k==Bf&&env.scope.kind==.function&&env.kindOf n==some .cell)=true then(n,NameKind.cell) else(n,k))::_)=_\/List.lookup x ((if(k==Bf&&env.scope.kind==.function&&env.kindOf n==some .cell)=true then(n,NameKind.cell) else(n,k))::_)=_;cases hx:x==n with
  |true=>
   simp only[Bj,hx] at h
   by_cases hc:(k==Bf&&env.scope.kind==.function&&env.kindOf n==some .cell)=true
   ·rw[if_pos hc];simp[Bj,hx]
   ·rw[if_neg hc];simp only[Bj,hx];exact h
  |false=>
   simp only[Bj,hx] at h
   by_cases hc:(k==Bf&&env.scope.kind==.function&&env.kindOf n==some .cell)=true
   ·rw[if_pos hc];simp only[Bj,hx];exact a h
   ·rw[if_neg hc];simp only[Bj,hx];exact a h
def iJ{env:Env}{x:Str}{a:NameKind}:∀{names:List (Str×NameKind)},(names.map fun(n,k)=>if(k==Bf&&env.scope.kind==.function&&env.kindOf n==some .cell) then(n,NameKind.cell) else(n,k)).lookup x=some a->
  ∃c,names.lookup x=some c/\(a=c\/(c=.free/\a=.cell))
 |[],h=>by simp at h
 |(n,k)::r,h=>by
  have d:=@iJ env x a r;have h':List.lookup x ((if(k==Bf&&env.scope.kind==.function&&env.kindOf n==some .cell)=true then(n,NameKind.cell) else(n,k))::_)=some a:=h;cases hx:x==n with
  |true=>
   simp only[Bj,hx]
   by_cases hc:(k==Bf&&env.scope.kind==.function&&env.kindOf n==some .cell)=true
   ·rw[if_pos hc] at h'
    simp only[Bj,hx] at h';cases h';have hk:k=.free:=by
     rw[AE,AE] at hc;cases k<;>first|rfl|exact absurd hc.1.1 ξ
    exact⟨k,rfl,.inr ⟨hk,rfl⟩⟩
   ·rw[if_neg hc] at h'
    simp only[Bj,hx] at h';cases h';exact⟨_,rfl,.inl rfl⟩
  |false=>
   simp only[Bj,hx]
   by_cases hc:(k==Bf&&env.scope.kind==.function&&env.kindOf n==some .cell)=true
   ·rw[if_pos hc] at h';simp only[Bj,hx] at h';exact d h'
   ·rw[if_neg hc] at h';simp only[Bj,hx] at h';exact d h'
structure Left(X:Cx)(aa:Ψ)(σ:St)(H':Hp)(s4:Shared)(C:Addr):Prop where
 ns:∃m,s4.heap.Ns C m
 far:X.s₀⁻¹<=C
 nl:C≠X.env.locals
 nc:∀x c,X.env.cells.lookup x=some c->c≠C
 np:∀p∈X.pn++aa,p.1≠C
 no:H' C=none
 back:∀h',A4 C s4.heap h'->Inv X aa σ H' {s4 with heap:=h'}
def xN{use:Option (Value->Sem Unit)}{R:Ω}{pp:Pos}(hc:X.calm=true)(hk:scope.kind=.function)(ay:∀y∈scope.names,y.2≠.cell)(av:∀y∈scope.names,y.2=.local->scope.names.lookup y.1=some .local)(hfr:∀y∈scope.names,y.2=.free->X.env.kindOf y.1=some .cell\/X.env.kindOf y.1=some .free)(aF:hF X.N N' ap scope)(hi:PI X tg iter wi)(hg:∀cl C s₀ H₀ ex,PG (cxC X scope N' cl C s₀ H₀ ex) tg g)(ht:∀cl C s₀ H₀ ex,dh (cxC X scope N' cl C s₀ H₀ ex) aD tc)(he:∀cl C s₀ H₀ ex,PE (cxC X scope N' cl C s₀ H₀ ex) aI te)(hs:∀x,Be iter X.env x=pure x){aa:Ψ}{s:Shared}{σ:St}{H:Hp}{Q:VK}(I:Inv X aa σ H s)(h:er wi ap g tc te σ H Q)(fin:∀(D C:Addr)(H':Hp)(O:Shared)(f:Flow),Left X aa σ H' O C->Q (.ref D) H'->compPost (model X.prog X.w) X.A X.xe use R (.ref D) C (.ok f) O):wpAny (model X.prog X.w) X.A (comprehension (.ListComp aI [⟨tg,iter,aD,0⟩] scope pos) scope X.env pp (newList []) (firstAsync [⟨tg,iter,aD,0⟩]) (firstIter [⟨tg,iter,aD,0⟩] X.env) use) R X.xe s:=by
 have hcl:∀y∈scope.names,y.2=.free->∃c,X.env.cells.lookup y.1=some c:=fun y hy e=>I.ok.has y.1 (hfr y hy e);refine wpAny_comprehension_free (use:=use) rfl hs (rx hcl) hk av ?_;refine bd (hi aa s σ H _ I h) fun xv s1 h1=>bd h1 fun jr M h2=>?_;obtain⟨it,fp,tn,J,H2,e,I2,T,a_,f2,q⟩:=h2;subst e;have c9:H2 M⁻¹=none:=I2.hok.fresh (Ag _);obtain⟨W,⟨m0,w0⟩,turn⟩:=q M⁻¹ c9;refine AS (wpAny_newFunctionEnv ay (by intro y hy;simp at hy) (fun al aJ bb=>?_) hk);dsimp only at aJ bb ⊢;generalize hD:M⁻¹=D at *;obtain⟨l,e3⟩:∃l:Shared,l={M with heap:=M.heap.push {cls:=.type "list",dict:=none,data:=.seq ([]:List Value).toArray}}:=⟨_,rfl⟩;have h3:l.heap=M.heap.push {cls:=.type "list",dict:=none,data:=.seq ([]:List Value).toArray}:=by rw[e3]
 rw[<-h3] at aJ bb ⊢;have ah:l⁻¹=D+1:=by rw[h3,Bi,hD]
 have I3:Inv X aa σ (upd H2 D (.lst [])) l:=by
  rw[e3,<-hD];exact I2.lnew (t':=M.toks) (ys:=[]) .nil (AW _)
 obtain⟨Xc,E⟩:∃Xc,Xc=cxC X scope N' (clOf X.env.cells scope.names []) l⁻¹ l (upd H2 D (.lst [])) fp:=⟨_,rfl⟩;have gk:PG Xc tg g:=by rw[E];exact hg _ _ _ _ _
 have ht':dh Xc aD tc:=by rw[E];exact ht _ _ _ _ _
 have he':PE Xc aI te:=by rw[E];exact he _ _ _ _ _
 have xP:Xc.prog=X.prog:=by rw[E];rfl
 have xw:Xc.w=X.w:=by rw[E];rfl
 have xK:Xc.K=X.K:=by rw[E];rfl
 have xA:Xc.A=X.A:=by rw[E];rfl
 have xc:Xc.calm=true:=by rw[E];exact hc
 have xe:Xc.env=compEnvC scope (clOf X.env.cells scope.names []) l⁻¹ X.env:=by rw[E];rfl
 have xE:Xc.xe=fun _ _=>False:=by rw[E];rfl
 have F:∀x c,(clOf X.env.cells scope.names []).lookup x=some c->X.env.cells.lookup x=some c:=fun x c e=>nh hcl (fun p hp=>absurd hp (by simp)) e;have hfd:∀b∈fp,b≠D/\b<D:=fun b hb=>by
  obtain⟨ob,eb,_⟩:=T.obj 0 _ a_ b hb;have:=Ah eb;rw[hD] at this;exact⟨Al this,this⟩
 have hfs:∀b∈frs X.stack,b<D:=fun b hb=>by
  obtain⟨_,ob,eb,_⟩:=I2.stack.mem hb;have:=Ah eb;rw[hD] at this;exact this
 have G:∀b o,l.heap.get? b=some o->al.get? b=some o:=fun b o e=>by
  have hb:b≠l⁻¹:=Al (Ah e);exact(bb.2 b hb).trans (Ac _ e)
 have hCf:(upd H2 D (.lst [])) l⁻¹=none:=I3.hok.fresh (Ag _);have Ic:Inv Xc aa (fq ap σ) (upd H2 D (.lst [])) {l with heap:=al}:=by
  have okc:Xc.Ok:=by
   rw[E];refine⟨I.ok.mod,hk,I.ok.glob,I.ok.blt,Ag _,fun x y c a b=>I.ok.inj x y c (F x c a) (F y c b),fun x hx=>?_,(fun x c a=>absurd a Ax),I.ok.hd,I.ok.frames,.inl rfl,fun b hb=>⟨?_,fun x c e=>?_⟩,fun b o e=>?_,?_,fun b o e z=>?_,fun b hb z=>?_,?_,fun b hb=>?_⟩
   ·have eB:(relabel scope X.env).names.lookup x=some .cell\/(relabel scope X.env).names.lookup x=some .free:=hx
    have key:∃S,scope.names.lookup x=some S/\(S=.free\/S=.cell):=by
     rcases eB with q|q
     ·obtain⟨S,e1,e2⟩:=iJ q
      rcases e2 with e2|⟨e2,_⟩
      ·exact⟨S,e1,.inr e2.symm⟩
      ·exact⟨S,e1,.inl e2⟩
     ·obtain⟨S,e1,e2⟩:=iJ q
      rcases e2 with e2|⟨e2,_⟩
      ·exact⟨S,e1,.inl e2.symm⟩
      ·exact⟨S,e1,.inl e2⟩
    obtain⟨S,e1,e2⟩:=key;have hm:=AV e1;rcases e2 with rfl|rfl
    ·obtain⟨c,eG⟩:=g_ (cells:=X.env.cells) (acc:=[]) (.inl hm)
     exact zu eG
    ·exact absurd rfl (ay _ hm)
   ·show b≠l⁻¹
    exact Al (by rw[ah];exact AF (hfd b hb).2)
   ·exact(f2 b hb).2.2.2.2.1 x c (F x c e)
   ·exact I3.bs b o e
   ·exact AA I.ok.bsz I3.sz
   ·obtain⟨f,_,_,fx,_,_⟩:=f2 b z
    rcases fx with fx|fx
    ·exact I.ok.noex b o e fx
    ·have:=Ay (Ah e) I.ok.bsz
     omega
   ·rcases List.mem_cons.mp (I2.stkSub b z) with r|r
    ·exact(f2 b hb).2.1 r
    ·exact(f2 b hb).2.2.1 r
   ·exact I3.stack
   ·exact I3.stkFree b hb
  refine⟨okc,(by rw[E];rfl),I3.bare,?_,?_,fun x c e=>?_,?_,fun x c e=>?_,fun p hp=>?_,?_,?_⟩
  ·rw[E]
   exact Un.kept G
  ·rw[xe]
   refine⟨_,aJ,fun i x v e1 e2 e3=>?_⟩;obtain⟨c1,c2⟩:=aF;unfold fq at e2;rw[Ar] at e2;cases e4:ap[i]? with
   |none=>rw[e4] at e2;cases e2
   |some cc=>
    rw[e4] at e2;cases cc with
    |none=>cases e2
    |some j=>
     obtain⟨y,d1,d2,d3⟩:=c2 i j e4;have bV:N'[i]?=some x:=by rw[E] at e1;exact e1
     rw[d1] at bV;have iN:y=x:=As bV;subst iN;have e5:σ[j]?=some (some v):=by
      simp only[Option.map_some,Option.some.injEq] at e2;cases e6:σ[j]? with
      |none=>rw[e6] at e2;cases e2
      |some ov=>rw[e6] at e2;simp only[Option.getD_some] at e2;rw[e2]
     have hm:=AV d3;have jy:ij X.env.scope y:=by
      rcases hfr _ hm rfl with q|q
      ·exact .inr (.inl q)
      ·exact .inr (.inr q)
     obtain⟨m,_,hl⟩:=I3.loc;obtain⟨u,ru,lk⟩:=hl j y v d2 e5 jy;refine⟨u,ru,?_⟩;have jw:∃c,X.env.cells.lookup y=some c/\l.heap.IsCell c (some u):=by
      rcases lk with ⟨k1,_⟩|⟨_,c,k2,k3⟩
      ·rcases hfr _ hm rfl with q|q
       ·rw[k1] at q;cases q
       ·rw[k1] at q;cases q
      ·exact⟨c,k2,k3⟩
     obtain⟨c,k2,k3⟩:=jw;obtain⟨d,hd'⟩:=g_ (cells:=X.env.cells) (acc:=[]) (.inl hm);obtain⟨d',aW⟩:=zu hd';have:c=d':=by
      have:=F y d' aW;rw[k2] at this;exact As this
     subst this;refine .inr ⟨?_,c,aW,k3.keeps G⟩;have rl:=kP (scope:=scope) (env:=X.env) (x:=y) (names:=scope.names) (.inl d3);rcases rl with q|q
     ·exact .inr q
     ·exact .inl q
  ·rw[xe] at e
   obtain⟨v,k3⟩:=I3.cell x c (F x c e);exact⟨v,k3.keeps G⟩
  ·rw[xe];exact hCf
  ·rw[xe] at e
   exact I3.freeC x c (F x c e)
  ·have bz:p∈X.pn++aa:=by rw[E] at hp;exact hp
   obtain⟨a1,a2,a3,a4,a5⟩:=I3.pin p bz;refine⟨G _ _ a1,a2,?_,?_,a5⟩
   ·rw[xe]
    show p.1≠l⁻¹;exact Al (Ah a1)
   ·rw[E]
    intro z;rcases List.mem_cons.mp (I3.stkSub p.1 z) with r|r
    ·exact a3 r
    ·exact a4 r
  ·rw[xP,xw]
   exact I3.hok.kept G
  ·unfold fq
   rw[Ab,aF.1,E]
   rfl
 have leave:∀{L:St}{H':Hp}{O:Shared}{h':Heap},Inv Xc aa L H' O->A4 l⁻¹ O.heap h'->Inv X aa σ H' {O with heap:=h'}:=fun{L H' O h'} I4 ax=>by
  have U:∀b o,M.heap.get? b=some o->b≠D/\b≠l⁻¹:=fun b o e=>by
   have hb:=Ah e;rw[hD] at hb;exact⟨Al hb,Al (by rw[ah];exact AF hb)⟩
  have Y:∀b o,M.heap.get? b=some o->l.heap.get? b=some o:=fun b o e=>by rw[h3];exact Ac _ e
  have base:Un (frs X.stack) fp (upd H2 D (.lst [])) H' l.heap O.heap:=by
   have:=I4.base;rw[E] at this;exact this
  have hCn:H' l⁻¹=none:=by
   have:=I4.free;rw[xe] at this;exact this
  have os4:O.os=M.os:=by
   have:=I4.os;rw[E] at this;rw[this];show l.os=M.os;rw[e3]
  refine I2.call' (s':={O with heap:=h'}) (ch:=fp) os4 ⟨fun b o q n hb hx=>?_,fun b o q n hb hx=>?_,fun b o q n hx=>?_,fun b o q hx=>?_,fun b xs q=>?_,fun b o u q=>?_,fun b ps q=>?_⟩ ?_ I4.bare fun b hb=>?_
  ·obtain⟨n1,n2⟩:=U b o q
   exact(ax.2 b n2).trans (base.keep b o (Y b o q) (by rw[zi n1];exact n) hb hx)
  ·obtain⟨n1,n2⟩:=U b o q
   obtain⟨sl,e⟩:=base.slot b o (Y b o q) (by rw[zi n1];exact n) hb hx;exact⟨sl,(ax.2 b n2).trans e⟩
  ·obtain⟨n1,n2⟩:=U b o q
   exact base.free b o (Y b o q) (by rw[zi n1];exact n) hx
  ·obtain⟨n1,n2⟩:=U b o q
   obtain⟨o',e⟩:=base.there b o (Y b o q) hx;exact⟨o',(ax.2 b n2).trans e⟩
  ·exact base.tups b xs (by rw[zi (zj q c9)];exact q)
  ·exact base.frzs b o u (by rw[zi (zj q c9)];exact q)
  ·exact base.tbls b ps (by rw[zi (zj q c9)];exact q)
  ·intro b u e
   have dH:=I4.hok b u e;rw[xP,xw] at dH;refine dH.stay (fun c v hc q=>(ax.2 c ?_).trans q) (fun _ q=>q) fun _ _ q=>q;rintro rfl;rcases hc with z|z
   ·rw[<-z,hCn] at e;cases e
   ·rw[hCn] at z;cases z
  ·obtain⟨f0,f1,f3,f4,f5,f6⟩:=f2 b hb
   exact⟨f4,f1,f5,f6⟩
 have P:∀{H':Hp},(∀b∈fp,H' b=none)->∀b∈fp,bD Xc aa H' b:=fun{H'} hn b hb=>by
  obtain⟨f0,f1,f3,f4,f5,f6⟩:=f2 b hb;refine⟨hn b hb,?_,?_,.inl (by rw[E];exact hb),fun x c e=>?_,fun p hp=>?_⟩
  ·rw[xe]
   show b≠l⁻¹;exact Al (by rw[ah];exact AF (hfd b hb).2)
  ·rw[E]
   intro z;rcases List.mem_cons.mp (I2.stkSub b z) with r|r
   ·exact f1 r
   ·exact f3 r
  ·rw[xe] at e
   exact f5 x c (F x c e)
  ·rw[E] at hp
   exact f6 p hp
 subst E;have Z:∀n s',(∃i L H',Inv (cxC X scope N' (clOf X.env.cells scope.names []) l⁻¹ l (upd H2 D (.lst [])) fp) aa L H' s'/\tn i s'.heap/\(∀b∈fp,H' b=none)/\W i n L H')->
   codeAny (model X.prog X.w) X.A (.compLoop (.ListComp aI [⟨tg,iter,aD,0⟩] scope pos) 0 (.ref it) (.ref D) (compEnvC scope (clOf X.env.cells scope.names []) l⁻¹ X.env)) (compPost (model X.prog X.w) X.A X.xe use R (.ref D) l⁻¹) s':=by
  intro n0 oj jH;refine codeAny_loop rfl (fun n s'=>∃i L H',Inv (cxC X scope N' (clOf X.env.cells scope.names []) l⁻¹ l (upd H2 D (.lst [])) fp) aa L H' s'/\tn i s'.heap/\(∀b∈fp,H' b=none)/\W i n L H') (fun n s' hI=>?_) n0 jH;obtain⟨i,L,H',I',af,eI,w'⟩:=hI;show wpAny _ X.A ((compTurn (.ListComp aI [⟨tg,iter,aD,0⟩] scope pos) 0 (.ref it) (.ref D) (compEnvC scope (clOf X.env.cells scope.names []) l⁻¹ X.env)).onRaise (fun x=>do noteFrame x (compEnvC scope (clOf X.env.cells scope.names []) l⁻¹ X.env);theTreesLotGoes x)) _ _ s';refine wpAny_noted ?_;rw[compTurn_list];refine Aa (wpAny_standAt (Aa ?_));rcases turn i n L H' w' with ⟨stop,qn⟩|⟨go,step⟩
  ·refine bd (T.done (cxC X scope N' (clOf X.env.cells scope.names []) l⁻¹ l (upd H2 D (.lst [])) fp) rfl rfl rfl hc i aa s' L H' _ I' (P eI) af stop) fun r O ⟨hr,I4⟩=>?_
   subst hr;refine Ad ?_;obtain⟨m,hn,_⟩:=id I4.loc;refine fin D _ H' O _ ⟨⟨m,hn⟩,I3.sz,fun e=>?_,fun x c e=>?_,fun p hp=>Al (Ah (I3.pin p hp).1),I4.free,fun h' ax=>leave I4 ax⟩ qn
   ·obtain⟨m3,kM,_⟩:=I3.loc
    obtain⟨o3,_,_,eU,_⟩:=kM;exact absurd e.symm (Al (Ah eU))
   ·obtain⟨v,hv⟩:=I3.cell x c e
    obtain⟨o3,eU,_⟩:=hv;exact Al (Ah eU)
  ·refine bd (T.item (cxC X scope N' (clOf X.env.cells scope.names []) l⁻¹ l (upd H2 D (.lst [])) fp) rfl rfl rfl hc i aa s' L H' _ I' (P eI) af go) fun r O ⟨u,hr,h4⟩=>?_
   subst hr;refine Aa (bd h4 fun _ s5 ⟨x,H5,I5,r5,y5,st5,fr5⟩=>?_);have I5':=I5.pinned (P fr5) (T.obj _ _ st5);refine Aa (Bb (gk _ s5 L H5 x u _ I5' r5 (step x H5 y5)) (fun _ s6 h6=>?_) fun _ _ z=>z.elim);obtain⟨dA,H6,I6,q6⟩:=h6;refine Aa (Bb (ht' _ s6 dA H6 _ I6 q6) (fun ok s7 h7=>?_) fun _ _ z=>z.elim);obtain⟨H7,I7,q7⟩:=h7;have again:∀{dc:St}{H8:Hp}{s8:Shared}{m':Nat},Inv (cxC X scope N' (clOf X.env.cells scope.names []) l⁻¹ l (upd H2 D (.lst [])) fp) (aa++iy fp s5.heap) dc H8 s8->m'<n->W (i+1) m' dc H8->
     ∃m,m<n/\∃i L H',Inv (cxC X scope N' (clOf X.env.cells scope.names []) l⁻¹ l (upd H2 D (.lst [])) fp) aa L H' s8/\tn i s8.heap/\(∀b∈fp,H' b=none)/\W i m L H':=fun{dc H8 s8 m'} I8 hm w8=>by
    refine⟨m',hm,i+1,dc,H8,I8.unpinned,T.keep _ _ _ st5 fun b hb o e=>(I8.pin (b,o) (AB _ (AB _ (z0 hb e)))).1,fun b hb=>?_,w8⟩;obtain⟨o,e,d⟩:=T.obj _ _ st5 b hb;exact(I8.pin (b,o) (AB _ (AB _ (z0 hb e)))).2.1
   cases ok with
   |false=>
    obtain⟨m',hm,w7⟩:=q7;exact Ad ⟨rfl,again I7 hm w7⟩
   |true=>
    refine Aa (Aa (Bb (he' _ s7 dA H7 _ I7 q7) (fun v s8 h8=>?_) fun _ _ z=>z.elim));obtain⟨y,H8,I8,r8,ys,m',i5,jq,jo,w8⟩:=h8;refine Aa (Bb (gC (X:=cxC X scope N' (clOf X.env.cells scope.names []) l⁻¹ l (upd H2 D (.lst [])) fp) _ s8 dA H8 (.ref D) [y] (.ref D) [v] (fun _ H9=>H9=upd H8 D (.lst (ys++[y]))) I8 rfl (.cons r8 .nil) ⟨D,ys,y,rfl,rfl,i5,jq,rfl⟩) (fun _ s9 h9=>?_) fun _ _ z=>z.elim);obtain⟨_,H9,I9,_,e9⟩:=h9;subst e9;exact Ad (Ad ⟨rfl,again I9 jo w8⟩)
 have start:∃i L H',Inv (cxC X scope N' (clOf X.env.cells scope.names []) l⁻¹ l (upd H2 D (.lst [])) fp) aa L H' {l with heap:=al}/\tn i ({l with heap:=al}:Shared).heap/\(∀b∈fp,H' b=none)/\W i m0 L H':=by
  refine⟨0,fq ap σ,upd H2 D (.lst []),Ic,T.keep 0 _ _ a_ fun b hb o e=>G b o (by rw[h3];exact Ac _ e),fun b hb=>?_,w0⟩;rw[zi (hfd b hb).1];exact(f2 b hb).1
 have es:({M with heap:=al,toks:=M.toks+([]:List (Str×Value)).length}:Shared)={l with heap:=al}:=by rw[e3];rfl
 show codeAny (model X.prog X.w) X.A _ _ ({M with heap:=al,toks:=M.toks+([]:List (Str×Value)).length}:Shared);rw[es];refine codeAny_compStart_list (Z m0 _ start) (T.self _ 0 _ _ _ ?_ (Z m0 _ start));exact T.keep 0 _ _ a_ fun b hb o e=>G b o (by rw[h3];exact Ac _ e)
def Ei(hc:X.calm=true)(hk:scope.kind=.function)(c:∀y∈scope.names,y.2≠.cell)(i:∀y∈scope.names,y.2=.local->scope.names.lookup y.1=some .local)(hfr:∀y∈scope.names,y.2=.free->X.env.kindOf y.1=some .cell\/X.env.kindOf y.1=some .free)(j:hF X.N N' ap scope)(hi:PI X tg iter wi)(l:∀a C s₀ H₀ ex,PG (cxC X scope N' a C s₀ H₀ ex) tg g)(ht:∀a C s₀ H₀ ex,dh (cxC X scope N' a C s₀ H₀ ex) aD tc)(he:∀a C s₀ H₀ ex,PE (cxC X scope N' a C s₀ H₀ ex) aI te)(hs:∀x,Be iter X.env x=pure x:=by intro _;rfl):PE X (.ListComp aI [⟨tg,iter,aD,0⟩] scope pos) (er wi ap g tc te):=by
 intro aa s σ H Q I h;rw[eval_ListComp];refine xN (use:=none) hc hk c i hfr j hi l ht he hs I h fun D C H' o f L q=>?_;obtain⟨m,e⟩:=L.ns;exact⟨m,e,fun h' d=>⟨.ref D,H',L.back h' d,rfl,q⟩⟩
end
end L2
end
section
namespace Zp
open PySem PySem.Spec PyProof.Rows
section
variable{prog:Program}{w:World}{A:Around}{E:Ω}{s:Shared}
def Ej{it t:Addr}{i:Nat}{d:Array Value}{x:Value}{Q:Ω}(c:s.heap.IsTupleIter it t i)(ht:s.heap.IsTuple t d)(hx:d[i]?=some x)(g:∀h',h'.IsTupleIter it t (i+1)->A4 it s.heap h'->Q x {s with heap:=h'}):wpAny (model prog w) A (Builtin.SmallTypes.nextOf (.ref it)) Q E s:=by
 obtain⟨o,a,hc,hd⟩:=id c;obtain⟨h,e,_,j,f⟩:=ht;unfold Builtin.SmallTypes.nextOf;refine Aa (wpAny_callSpecial?_slot (name:=Str.ofString "__next__") c.typeIs F.slot_tuple_iterator_next (Ba F.slot_tuple_iterator_next c.typeIs F.entry_tuple_iterator_next ?_ (F.args_tuple_iterator_next_1 _)));show wpAny _ _ (field (.ref it) 0 >>= _) _ _ s;refine Aa (AR a hd (x:=.ref t) rfl ?_);show wpAny _ _ (if(Value.ref t==Value.none)=true then _ else _) _ _ s;rw[if_neg (show ¬((Value.ref t==Value.none)=true) from Ax)];show wpAny _ _ (field (.ref it) 1 >>= _) _ _ s;refine Aa (AR a hd (x:=.int i 0) rfl ?_);show wpAny _ _ (seqItems? (.ref t) >>= _) _ _ s;refine Aa (wpAny_seqItems e f ?_);simp only[Int.toNat_natCast,hx];refine Aa (wpAny_setField a hd (by simp) (Ad ⟨x,rfl,Ad (g _ ?_ (A6 ..))⟩));exact⟨_,Heap.get?_update_self _ a (Obj.isFreed_of_fields (Obj.data_mapFields hd _)),(Obj.cls_mapFields ..).trans hc,by
  rw[Obj.data_mapFields hd];simp[rawInt]⟩
def Ek{it t:Addr}{i:Nat}{f:Array Value}{Q:Ω}(g:A.handled=none)(d:s.heap.IsTupleIter it t i)(ht:s.heap.IsTuple t f)(hx:f[i]?=none)(l:∀h' e,Heap.ExtBut it s.heap h'->(∃o,h'.get? e=some o/\o.cls=.type "StopIteration")->E (.ref e) {s with heap:=h'}):wpAny (model prog w) A (Builtin.SmallTypes.nextOf (.ref it)) Q E s:=by
 obtain⟨o,c,hc,hd⟩:=id d;obtain⟨p,h,_,q,j⟩:=ht;unfold Builtin.SmallTypes.nextOf;refine Aa (wpAny_callSpecial?_slot (name:=Str.ofString "__next__") d.typeIs F.slot_tuple_iterator_next (Ba F.slot_tuple_iterator_next d.typeIs F.entry_tuple_iterator_next ?_ (F.args_tuple_iterator_next_1 _)));show wpAny _ _ (field (.ref it) 0 >>= _) _ _ s;refine Aa (AR c hd (x:=.ref t) rfl ?_);show wpAny _ _ (if(Value.ref t==Value.none)=true then _ else _) _ _ s;rw[if_neg (show ¬((Value.ref t==Value.none)=true) from Ax)];show wpAny _ _ (field (.ref it) 1 >>= _) _ _ s;refine Aa (AR c hd (x:=.int i 0) rfl ?_);show wpAny _ _ (seqItems? (.ref t) >>= _) _ _ s;refine Aa (wpAny_seqItems h j ?_);simp only[Int.toNat_natCast,hx];refine Aa (wpAny_rule (Aa (wpAny_setField c hd (by simp) ?_)));show wpAny _ _ (newExc (.type "StopIteration") [] >>= _) _ _ _;refine Aa ?_;simp only[newExc,newTuple];refine Aa (AS ?_ (by size_fits));refine Aa (m:=firstArgMember _ _) (wpAny_of_eq (a:=Value.none) (by first|rfl|(simp only[firstArgMember];rfl)) ?_);refine AS ?_ (by size_fits);simp only[raiseNew];refine Aa (wpAny_handled ?_)
 first|rw[show A.in1.handled=none from g]|rw[g]
 refine Aa (Ad (wpAny_throw ?_));exact l _ _ (((A6 ..).extBut.push _).push _) ⟨_,Av _ rfl,rfl⟩
end
def El{h h':Heap}{a:Addr}{c:Array Value}(x:h.IsTuple a c)(e:∀o,h.get? a=some o->h'.get? a=some o):h'.IsTuple a c:=let ⟨o,ho,r⟩:=x;⟨o,e o ho,r⟩
def xO{prog:Program}{w:World}{A:Around}(l:A.handled=none)(it t:Addr)(c:t≠it)(a:Array Value):Draws prog w A it [it,t] a.size (fun i v=>a[i]?=some v) (fun i h=>h.IsTupleIter it t i/\h.IsTuple t a) where
 live:=fun _ _ st=>let ⟨o,ho,_⟩:=st.1;⟨o,ho⟩
 frame:=fun _ _ _ st hk=>⟨st.1.at fun o e=>hk it (by simp) o e,El st.2 fun o e=>hk t (by simp) o e⟩
 item:=fun i s Q E hi st f=>by
  refine Ej st.1 st.2 (x:=a[i]) (by simp[hi]) fun h' g d=>?_;exact f _ h' s.toks (by simp[hi]) ⟨g,st.2.extBut d.extBut c⟩ d
 done:=fun s Q E st j=>Ek l st.1 st.2 (by simp) j
structure Apart(z TI TO i1 i2:Addr)(ci cg:List Addr):Prop where
 z1:z∉ci
 z2:z∉cg
 o1:TO∉ci
 o2:TO∉cg
 m1:i1∈ci
 m2:i2∈cg
 x12:i1∉cg
 x21:i2∉ci
 TIz:TI≠z
 TOz:TO≠z
 TITO:TI≠TO
 TIi1:TI≠i1
 TIi2:TI≠i2
section
variable{prog:Program}{w:World}{A:Around}{E:Ω}{s:Shared}{z TI TO i1 i2:Addr}{ci cg:List Addr}{n1 n2 i:Nat}{P1 P2:Nat->Value->Prop}{S1 S2:Nat->Heap->Prop}{a b:Value}
def Em{Q:Ω}(D1:Draws prog w A i1 ci n1 P1 S1)(D2:Draws prog w A i2 cg n2 P2 S2)(D:Apart z TI TO i1 i2 ci cg)(j:IsZip s.heap z TI TO .none)(dE:IsPair s.heap TI (.ref i1) (.ref i2))(dJ:IsPair s.heap TO a b)(h1:S1 i s.heap)(h2:S2 i s.heap)(l1:i<n1)(l2:i<n2)(hQ:∀x y h' tk,P1 i x->P2 i y->IsZip h' z TI TO (rawInt s⁻¹)->IsPair h' TO x y->S1 (i+1) h'->S2 (i+1) h'->IsPair h' s⁻¹ x y->h'.objs.size=s⁻¹+1->
   (∀c o,c≠z->c≠TO->c≠i1->c≠i2->s.heap.get? c=some o->h'.get? c=some o)->Q (.ref s⁻¹) {s with heap:=h',toks:=tk}):
  wpAny (model prog w) A (Builtin.«zip.__next__» ⟨[.ref z],[]⟩) (fun fin s'=>∃v,fin=.done (.ret v)/\Q v s') E s:=by
 have f:∀c∈ci,c≠z:=fun c hc e=>D.z1 (e▸hc);have L:∀c∈cg,c≠z:=fun c hc e=>D.z2 (e▸hc);have M:∀c∈ci,c≠TO:=fun c hc e=>D.o1 (e▸hc);have N:∀c∈cg,c≠TO:=fun c hc e=>D.o2 (e▸hc);have mE:∀c∈cg,c≠i1:=fun c hc e=>D.x12 (e▸hc);have sE:∀c∈ci,c≠i2:=fun c hc e=>D.x21 (e▸hc);have kB:i1≠z:=f _ D.m1;have k9:i2≠z:=L _ D.m2;have gG:TO≠i1:=(M _ D.m1).symm;have lh:TO≠i2:=(N _ D.m2).symm;show wpAny _ _ (field (.ref z) 2 >>= _) _ _ _;refine Aa (AR j rfl (x:=.bool false) rfl ?_);show wpAny _ _ (field (.ref z) 3 >>= _) _ _ _;refine Aa (AR j rfl (x:=.ref TI) rfl ?_);refine Aa (wpAny_seqItems dE rfl ?_);show wpAny _ _ (Builtin.SmallTypes.ownedTupleIsFree (.ref z) >>= _) _ _ _;refine Aa ?_;unfold Builtin.SmallTypes.ownedTupleIsFree;refine Aa (AR j rfl (x:=.none) rfl (Ad ?_));simp only[if_true];refine Aa (wpAny_rule ?_);refine Aa (AR j rfl (x:=.ref TO) rfl ?_);refine Aa (wpAny_setField_rec j (by simp) fun g1 u k1=>?_);replace u:IsZip g1 z TI TO .ellipsis:=u;refine Aa ?_;simp only[List.zipIdx_cons,List.zipIdx_nil,List.forIn_cons,List.forIn_nil];refine Aa (Aa (wpAny_onRaise ?_));show wpAny _ _ (Builtin.SmallTypes.nextOf (.ref i1) >>= _) _ _ _;refine Aa (D1.item i _ _ _ l1 (D1.frame _ _ _ h1 fun c hc o e=>k1.extBut c o (f c hc) e) fun x g2 r9 X Y k2=>Ad ?_);have O:IsPair g2 TO a b:=k2.extBut _ _ gG (k1.extBut _ _ D.TOz dJ);refine Aa (wpAny_seqItems O rfl ?_);refine Aa (wpAny_updateSeq_pair O fun g3 C k3=>?_);replace C:IsPair g3 TO x b:=C;refine Aa (wpAny_letGo (Ad ?_));refine Aa (Aa (wpAny_onRaise ?_));show wpAny _ _ (Builtin.SmallTypes.nextOf (.ref i2) >>= _) _ _ _;refine Aa (D2.item i _ _ _ l2 (D2.frame _ _ _ h2 fun c hc o e=>k3.extBut c o (N c hc) (k2.extBut c o (mE c hc) (k1.extBut c o (L c hc) e))) fun y g4 vD Z s4 g=>Ad ?_);have P:IsPair g4 TO x b:=g.extBut _ _ lh C;refine Aa (wpAny_seqItems P rfl ?_);refine Aa (wpAny_updateSeq_pair P fun g5 l k5=>?_);replace l:IsPair g5 TO x y:=l;refine Aa (wpAny_letGo (Ad (Ad ?_)));refine Aa (wpAny_seqItems l rfl ?_);refine Aa (wpAny_newTuple ?_);have hsz:g5.objs.size=s⁻¹:=by rw[k5.1,g.1,k3.1,k2.1,k1.1]
 have S:IsZip g5 z TI TO .ellipsis:=k5.extBut _ _ D.TOz.symm (g.extBut _ _ k9.symm (k3.extBut _ _ D.TOz.symm (k2.extBut _ _ kB.symm u)));have kk:∀c o,c≠z->c≠TO->c≠i1->c≠i2->s.heap.get? c=some o->g5.get? c=some o:=fun c o d p F G e=>
  k5.extBut _ _ p (g.extBut _ _ G (k3.extBut _ _ p (k2.extBut _ _ F (k1.extBut _ _ d e))))
 have d1:S1 (i+1) g5:=D1.frame _ _ _ Y fun c hc o e=>k5.extBut c o (M c hc) (g.extBut c o (sE c hc) (k3.extBut c o (M c hc) e));have d2:S2 (i+1) g5:=D2.frame _ _ _ s4 fun c hc o e=>k5.extBut c o (N c hc) e;have T:z<g5.objs.size:=Ah S;have e1:∀c∈ci,∀o,g5.get? c=some o->c<g5.objs.size:=fun c _ o e=>Ah e;show wpAny _ _ (Builtin.SmallTypes.ownedTupleHandOut (.ref z) (.ref g5.objs.size) >>= _) _ _ _;refine Aa ?_;unfold Builtin.SmallTypes.ownedTupleHandOut;have z6:IsZip (g5.push {cls:=.type "tuple",data:=.seq #[x,y]}) z TI TO .ellipsis:=Ac _ S;refine Aa (wpAny_setField_rec z6 (by simp) fun g7 H I=>?_);replace H:IsZip g7 z TI TO (rawInt g5.objs.size):=H;refine wpAny_setField_rec H (by simp) fun h q J=>?_;replace q:IsZip h z TI TO (rawInt g5.objs.size):=q;have r:∀c o,c≠z->g5.get? c=some o->h.get? c=some o:=fun c o d e=>J.extBut _ _ d (I.extBut _ _ d (Ac _ e));have W:IsPair h g5.objs.size x y:=J.extBut _ _ (Nat.ne_of_gt T) (I.extBut _ _ (Nat.ne_of_gt T) (Av _ rfl));have U:h.objs.size=g5.objs.size+1:=by rw[J.1,I.1,Bi]
 rw[hsz] at q W U;refine Ad ⟨_,rfl,?_⟩;show Q (.ref g5.objs.size) _;rw[hsz];exact hQ x y h _ X Z q (r _ _ D.TOz l) (D1.frame _ _ _ d1 fun c hc o e=>r c o (f c hc) e) (D2.frame _ _ _ d2 fun c hc o e=>r c o (L c hc) e) W U fun c o d p F G e=>r c o d (kk c o d p F G e)
def En{Q:Fin->Shared->Prop}(D1:Draws prog w A i1 ci n1 P1 S1)(D2:Draws prog w A i2 cg n2 P2 S2)(D:Apart z TI TO i1 i2 ci cg)(j:IsZip s.heap z TI TO .none)(U:IsPair s.heap TI (.ref i1) (.ref i2))(W:IsPair s.heap TO a b)(h1:S1 i s.heap)(h2:S2 i s.heap)(L:i=n1\/(i<n1/\i=n2))(H:∀h' e tk,(∀c o,c≠z->c≠TO->c≠i1->c≠i2->s.heap.get? c=some o->h'.get? c=some o)->(∃o,h'.get? e=some o/\o.cls=.type "StopIteration")->E (.ref e) {s with heap:=h',toks:=tk}):wpAny (model prog w) A (Builtin.«zip.__next__» ⟨[.ref z],[]⟩) Q E s:=by
 have h:∀c∈ci,c≠z:=fun c hc e=>D.z1 (e▸hc);have y:∀c∈cg,c≠z:=fun c hc e=>D.z2 (e▸hc);have N:∀c∈ci,c≠TO:=fun c hc e=>D.o1 (e▸hc);have O:∀c∈cg,c≠TO:=fun c hc e=>D.o2 (e▸hc);have P:∀c∈cg,c≠i1:=fun c hc e=>D.x12 (e▸hc);have C:i1≠z:=h _ D.m1;have S:i2≠z:=y _ D.m2;have T:TO≠i1:=(N _ D.m1).symm;show wpAny _ _ (field (.ref z) 2 >>= _) _ _ _;refine Aa (AR j rfl (x:=.bool false) rfl ?_);show wpAny _ _ (field (.ref z) 3 >>= _) _ _ _;refine Aa (AR j rfl (x:=.ref TI) rfl ?_);refine Aa (wpAny_seqItems U rfl ?_);show wpAny _ _ (Builtin.SmallTypes.ownedTupleIsFree (.ref z) >>= _) _ _ _;refine Aa ?_;unfold Builtin.SmallTypes.ownedTupleIsFree;refine Aa (AR j rfl (x:=.none) rfl (Ad ?_));simp only[if_true];refine Aa (wpAny_rule ?_);refine Aa (AR j rfl (x:=.ref TO) rfl ?_);refine Aa (wpAny_setField_rec j (by simp) fun g1 l k1=>?_);replace l:IsZip g1 z TI TO .ellipsis:=l;refine Aa ?_;simp only[List.zipIdx_cons,List.zipIdx_nil,List.forIn_cons,List.forIn_nil];refine Aa (Aa (wpAny_onRaise ?_));have f1:=D1.frame _ _ _ h1 fun c hc o e=>k1.extBut c o (h c hc) e;rcases L with q|⟨M,q⟩
 ·show wpAny _ _ (Builtin.SmallTypes.nextOf (.ref i1) >>= _) _ _ _
  refine Aa (D1.done _ _ _ (q▸f1) fun g2 e k2 he=>?_);obtain⟨r,d,g⟩:=he;have z2:IsZip g2 z TI TO .ellipsis:=k2 _ _ C.symm l;have u:e≠z:=fun x=>by subst x;rw[z2] at d;cases d;simp at g
  refine wpAny_setField_rec z2 (by simp) fun g3 _ k3=>H g3 e _ (fun c o f _ p _ x=>k3.extBut _ _ f (k2 _ _ p (k1.extBut _ _ f x))) ⟨r,k3.extBut _ _ u d,g⟩
 ·show wpAny _ _ (Builtin.SmallTypes.nextOf (.ref i1) >>= _) _ _ _
  refine Aa (D1.item i _ _ _ M f1 fun x g2 X Y Z k2=>Ad ?_);have F:IsPair g2 TO a b:=k2.extBut _ _ T (k1.extBut _ _ D.TOz W);refine Aa (wpAny_seqItems F rfl ?_);refine Aa (wpAny_updateSeq_pair F fun g3 t3 k3=>?_);refine Aa (wpAny_letGo (Ad ?_));refine Aa (Aa (wpAny_onRaise ?_));have f2:S2 i g3:=D2.frame _ _ _ h2 fun c hc o e=>k3.extBut c o (O c hc) (k2.extBut c o (P c hc) (k1.extBut c o (y c hc) e));show wpAny _ _ (Builtin.SmallTypes.nextOf (.ref i2) >>= _) _ _ _;refine Aa (D2.done _ _ _ (q▸f2) fun g4 e v he=>?_);obtain⟨r,d,g⟩:=he;have G:IsZip g4 z TI TO .ellipsis:=v _ _ S.symm (k3.extBut _ _ D.TOz.symm (k2.extBut _ _ C.symm l));have u:e≠z:=fun x=>by subst x;rw[G] at d;cases d;simp at g
  refine wpAny_setField_rec G (by simp) fun g5 _ k5=>H g5 e _ (fun c o f I p J x=>k5.extBut _ _ f (v _ _ J (k3.extBut _ _ I (k2.extBut _ _ p (k1.extBut _ _ f x))))) ⟨r,k5.extBut _ _ u d,g⟩
end
def Eo{prog:Program}{w:World}{A:Around}{z TI TO i1 i2:Addr}{ci cg:List Addr}{n1 n2:Nat}{P1 P2:Nat->Value->Prop}{S1 S2:Nat->Heap->Prop}(D1:Draws prog w A.in1 i1 ci n1 P1 S1)(D2:Draws prog w A.in1 i2 cg n2 P2 S2)(D:Apart z TI TO i1 i2 ci cg):WalksT prog w A z (z::TI::TO::(ci++cg)) [z,TO,i1,i2] (min n1 n2) (fun i vals=>∃x y,P1 i x/\P2 i y/\vals=#[x,y])
   (fun i h=>IsZip h z TI TO .none/\IsPair h TI (.ref i1) (.ref i2)/\(∃a b,IsPair h TO a b)/\S1 i h/\S2 i h)
   (fun i T h=>IsZip h z TI TO (rawInt T)/\IsPair h TI (.ref i1) (.ref i2)/\(∃a b,IsPair h TO a b)/\S1 (i+1) h/\S2 (i+1) h/\T≠z/\T≠TO/\T≠i1/\T≠i2) where
 sub:=fun c hc=>by
  simp at hc ⊢;rcases hc with rfl|rfl|rfl|rfl
  ·simp
  ·simp
  ·exact .inr (.inr (.inr (.inl D.m1)))
  ·exact .inr (.inr (.inr (.inr D.m2)))
 frame:=fun i h h' d hk=>by
  obtain⟨f,j,⟨a,b,l⟩,h1,h2⟩:=d;exact⟨hk z (by simp) _ f,hk TI (by simp) _ j,⟨a,b,hk TO (by simp) _ l⟩,D1.frame _ _ _ h1 fun c hc o e=>hk c (by simp[hc]) o e,D2.frame _ _ _ h2 fun c hc o e=>hk c (by simp[hc]) o e⟩
 item:=fun i s Q E hi d p=>by
  obtain⟨f,j,⟨a,b,l⟩,h1,h2⟩:=d;have g:s.TypeIs (.ref z) "zip":=⟨_,f,rfl⟩;unfold pyNext;refine Aa (wpAny_attempt (wpAny_callSpecial?_slot (name:=Str.ofString "__next__") g F.slot_zip_next (Ba F.slot_zip_next g F.entry_zip_next
   (Em D1 D2 D f j l h1 h2 (Ay hi (Nat.min_le_left ..)) (Ay hi (Nat.min_le_right ..)) fun x y h' tk u v C G H I J Y hk=>Ad ?_) (F.args_zip_next_1 _))))
  have lt:∀{c o},s.heap.get? c=some o->s⁻¹≠c:=fun e=>Nat.ne_of_gt (Ah e);obtain⟨Z,M⟩:=D1.live _ _ h1;obtain⟨o2,N⟩:=D2.live _ _ h2;exact p s⁻¹ #[x,y] h' tk ⟨_,_,u,v,rfl⟩ (Ag _) ⟨_,J,rfl,_,rfl⟩ ⟨C,hk _ _ D.TIz D.TITO D.TIi1 D.TIi2 j,⟨_,_,G⟩,H,I,lt f,lt l,lt M,lt N⟩
   fun c o hc e=>hk c o (fun x=>hc (by simp[x])) (fun x=>hc (by simp[x])) (fun x=>hc (by simp[x])) (fun x=>hc (by simp[x])) e
 go:=fun cF k pos i T s Q E hm p=>by
  obtain⟨f,j,⟨a,b,l⟩,h1,h2,_⟩:=hm;refine wpAny_letOwnedTupleGo_zip f fun h' L r=>p h' ⟨L,r.extBut _ _ D.TIz j,⟨a,b,r.extBut _ _ D.TOz l⟩,
   D1.frame _ _ _ h1 fun c hc o e=>r.extBut c o (fun q=>D.z1 (q▸hc)) e,D2.frame _ _ _ h2 fun c hc o e=>r.extBut c o (fun q=>D.z2 (q▸hc)) e⟩ fun c o hc e=>r.extBut _ _ (fun x=>hc (by simp[x])) e
 apart:=fun i T h hm g=>by
  obtain⟨_,_,_,_,_,O,P,S,U⟩:=hm;simp at g;rcases g with rfl|rfl|rfl|rfl
  ·exact O rfl
  ·exact P rfl
  ·exact S rfl
  ·exact U rfl
 done:=fun s Q E d p=>by
  obtain⟨f,j,⟨a,b,l⟩,h1,h2⟩:=d;have g:s.TypeIs (.ref z) "zip":=⟨_,f,rfl⟩;have X:min n1 n2=n1\/(min n1 n2<n1/\min n1 n2=n2):=ω
  unfold pyNext;refine Aa (wpAny_attempt (wpAny_callSpecial?_slot (name:=Str.ofString "__next__") g F.slot_zip_next
   (Ba F.slot_zip_next g F.entry_zip_next (En D1 D2 D f j l h1 h2 X fun h' e tk hk he=>?_) (F.args_zip_next_1 _))))
  obtain⟨o,W,hc⟩:=he;refine Aa (wpAny_isInstance (T:="StopIteration") (b:=true) ⟨o,W,hc⟩ isSubtype_stop ?_);exact Ad (p _ tk fun c o hc e=>hk c o (fun x=>hc (by simp[x])) (fun x=>hc (by simp[x])) (fun x=>hc (by simp[x])) (fun x=>hc (by simp[x])) e)
 self:=fun i s Q E d p=>wpAny_pyIter_zip d.1 p
end Zp
end
section
namespace L2
open PySem PySem.Spec PyProof.Rows
section
variable{X:Cx}{aa:Ψ}{σ:St}{H:Hp}{s:Shared}{h':Heap}
def Inv.turneds{t':Nat}{ch:List Addr}(I:Inv X aa σ H s)(hf:∀b∈ch,bD X aa H b)(k:∀b o,b∉ch->s.heap.get? b=some o->h'.get? b=some o):Inv X aa σ H {s with heap:=h',toks:=t'}:=by
 have a:∀b u,H b=some u->b∉ch:=fun b u e z=>by have:=(hf b z).1;rw[this] at e;cases e
 refine I.step (g':=s.gens) (d':=s.drawn) (ch:=ch) (fun b hb=>?_) (fun b o _ _ hc e _=>k b o hc e) (fun b o _ _ hc e _=>⟨o.slots,k b o hc e⟩) (fun _ _ _ _ n=>n)
  (fun b o hc e=>⟨o,k b o hc e⟩) (fun _ _ e=>e) (fun _ _ _ e=>e) (fun b ps e=>⟨#[],by rw[e];simp⟩) (fun m hm=>?_) (fun b u e=>?_) I.bare
 ·obtain⟨f0,f1,f2,f3,f4,f5⟩:=hf b hb
  exact⟨f3,f1,f4,f5⟩
 ·obtain⟨o,es,ep,d,r⟩:=hm
  exact⟨o,es,ep,k _ o (fun z=>(hf _ z).2.1 rfl) d,r⟩
 ·refine(I.hok b u e).stay (fun c v hc q=>k c v ?_ q) (fun _ q=>q) fun _ _ q=>q
  rcases hc with z|z
  ·rw[z];exact a b u e
  ·exact a c _ z
def Inv.adopt{a:Addr}{o:HO}(I:Inv X aa σ H s)(d:H a=none)(h1:X.s₀⁻¹<=a)(h2:a≠X.env.locals)(f:∀x c,X.env.cells.lookup x=some c->c≠a)(g:∀p∈X.pn++aa,p.1≠a)(new:zQ X.prog X.w (upd H a o) s.heap a o):Inv X aa σ (upd H a o) s:=by
 refine I.step (h':=s.heap) (g':=s.gens) (t':=s.toks) (d':=s.drawn) (ch:=[a]) (fun b hb=>?_) (fun b o _ _ hc e _=>e) (fun b o _ _ hc e _=>⟨o.slots,e⟩) (fun b o hc e n=>?_)
  (fun b o hc e=>⟨o,e⟩) (fun b xs e=>?_) (fun b o u e=>?_) (fun b ps e=>⟨#[],?_⟩) (fun m hm=>hm) (fun b u e=>?_) I.bare
 ·have e:b=a:=by simpa using hb
  subst e;exact⟨.inr h1,h2,f,g⟩
 ·rw[zi (fun z=>hc (by simp[z]))];exact n
 ·rw[zi (zj e d)];exact e
 ·rw[zi (zj e d)];exact e
 ·rw[zi (zj e d),e];simp
 ·by_cases hb:b=a
  ·subst hb;rw[am] at e;cases e;exact new
  ·rw[zi hb] at e
   exact(I.hok b u e).stay (fun _ _ _ q=>q) (fun c q=>by rw[zi (zj q d)];exact q) fun c xs q=>by rw[zi (zj q d)];exact q
def Inv.grown{t':Nat}{ch:List Addr}{a:Addr}{o:HO}(I:Inv X aa σ H s)(hf:∀b∈ch,bD X aa H b)(k:∀b o,b∉ch->s.heap.get? b=some o->h'.get? b=some o)(hp:s⁻¹<=a)(new:zQ X.prog X.w (upd H a o) h' a o):Inv X aa σ (upd H a o) {s with heap:=h',toks:=t'}:=by
 have I1:Inv X aa σ H {s with heap:=h',toks:=t'}:=I.turneds hf k;obtain⟨f0,f1,f2,f3,f4,f5⟩:=I.fpOk hp (I.hok.fresh hp);exact I1.adopt f0 (AA I.sz hp) f1 f4 f5 new
def Ep{b t:Addr}{o:Obj}(I:Inv X aa σ H s)(f:bD X aa H b)(hk:X.K.lookup t=some o):t≠b:=by
 intro z;subst z;have e:=I.ok.mod.kin t o hk;rcases f.2.2.2.1 with q|q
 ·exact I.ok.noex t o e q
 ·exact absurd (Ay (Ah (I.ok.bs t o e).1) q) (Nat.lt_irrefl _)
def xQ{b t:Addr}{xs:List V}(I:Inv X aa σ H s)(f:bD X aa H b)(h:SqT X.K H t xs):t≠b:=by
 rcases h with (h|⟨o,h⟩)|⟨o,_,_,hk,_⟩
 ·exact zj h f.1
 ·exact zj h f.1
 ·exact Ep I f hk
end
def Er{P:Program}{w:World}{K:Ae}{J:It}{fp wr:List Addr}{it:Addr}{a:Nat->Heap->Prop}{cF:List Expr}{k:Nat}{pos:Pos}(mem:it∈fp)(obj:∀i h,a i h->∀b∈fp,∃o,h.get? b=some o/\∀v,o.data≠.cell v)(keep:∀i h h',a i h->(∀b∈fp,∀o,h.get? b=some o->h'.get? b=some o)->a i h')(hw:∀b∈wr,b∈fp)(W:∀(X:Cx),X.prog=P->X.w=w->X.K=K->X.calm=true->∀(i:Nat)(aa:Ψ)(s:Shared)(σ:St)(H:Hp),Inv X aa σ H s->(∀b∈fp,bD X aa H b)->a i s.heap->(J.go i H\/J.stop i H)->
   ∃(y:List Addr)(n:Nat)(u:Nat->Array Value->Prop)(S:Nat->Heap->Prop)(z:Nat->Addr->Heap->Prop),WalksT P w X.A it y wr n u S z/\S i s.heap/\(∀j h,S j h->a j h)/\
    (J.go i H->i<n/\∀vals,u i vals->∃xs:List V,Vals xs vals.toList/\xs.length<=sizeLine/\∀p,H p=none->J.yld i H (.ref p) (upd H p (.tup xs)))/\(J.stop i H->i=n))
  (self:∀(A:Around)(i:Nat)(s:Shared)(Q:Ω)(E:Ω),a i s.heap->Q (.ref it) s->wpAny (model P w) A (pyIter (.ref it)) Q E s) :
  Turn P w K (.Tuple cF k pos) J fp it a where
 mem:=mem
 obj:=obj
 keep:=keep
 item:=by
  intro X c d f hc i aa s σ H E I hf st l;obtain⟨y,n,u,S,z,WT,C,D,g,_⟩:=W X c d f hc i aa s σ H I hf st (.inl l);obtain⟨hi,N⟩:=g l;subst c d f;refine WT.item i s _ _ hi C fun T vals h' tk hp x F hm hk=>⟨.ref T,rfl,?_⟩;obtain⟨xs,O,U,hy⟩:=N vals hp;have I1:Inv X aa σ (upd H T (.tup xs)) {s with heap:=h',toks:=tk}:=I.grown (ch:=wr) (fun b hb=>hf b (hw b hb)) hk x (show zQ X.prog X.w _ h' T (.tup xs) from⟨U,vals.toList,O,by have q:IsTup h' T vals:=F;simpa using q⟩);have Y:∀b∈fp,b≠T:=fun b hb=>by
   obtain⟨o,e,_⟩:=obj i _ st b hb;exact Al (Ay (Ah e) x)
  have r:∀b∈fp,bD X aa (upd H T (.tup xs)) b:=fun b hb=>by
   obtain⟨f0,fr⟩:=hf b hb;exact⟨by rw[zi (Y b hb)];exact f0,fr⟩
  refine WT.go cF k pos i T _ _ _ hm fun G L M=>?_;have Z:Inv X aa σ (upd H T (.tup xs)) {s with heap:=G,toks:=tk}:=I1.turneds (s:={s with heap:=h',toks:=tk}) (t':=tk) (ch:=wr) (fun b hb=>r b (hw b hb)) M;exact⟨.ref T,_,Z,rfl,hy T (I.hok.fresh x),D _ _ L,fun b hb=>(r b hb).1⟩
 done:=by
  intro X c d f hc i aa s σ H E I hf st l;obtain⟨y,n,u,S,z,WT,C,D,_,g⟩:=W X c d f hc i aa s σ H I hf st (.inr l);subst c d f;have e:=g l;subst e;exact WT.done s _ _ C fun h' tk hk=>⟨rfl,I.turneds (ch:=wr) (fun b hb=>hf b (hw b hb)) hk⟩
 self:=self
def ry(K:Ae)(a c:Addr):It:=
 ⟨fun i H=>∃xs ys,SqT K H a xs/\SqT K H c ys/\i<min xs.length ys.length,
  fun i H v H'=>∃p x y,v=.ref p/\H p=none/\H'=upd H p (.tup [x,y])/\(∀xs,SqT K H a xs->xs[i]?=some x)/\∀ys,SqT K H c ys->ys[i]?=some y,
  fun i H=>∃xs ys,SqT K H a xs/\SqT K H c ys/\i=min xs.length ys.length⟩
def fP:(2:Nat)<=sizeLine:=by rw[sizeLine_eq];decide
def Es{P:Program}{w:World}{K:Ae}{cF:List Expr}{k:Nat}{pos:Pos}(L M z TI TO i1 i2:Addr)(hd:TI≠z/\TO≠z/\TI≠TO/\TI≠i1/\TI≠i2/\z≠i1/\z≠i2/\TO≠i1/\TO≠i2/\i1≠i2):Turn P w K (.Tuple cF k pos) (ry K L M) [z,TI,TO,i1,i2] z (fun i h=>IsZip h z TI TO .none/\IsPair h TI (.ref i1) (.ref i2)/\(∃a b,IsPair h TO a b)/\h.IsTupleIter i1 L i/\h.IsTupleIter i2 M i):=by
 obtain⟨d1,d2,d3,d4,d5,d6,d7,d8,d9,Y⟩:=hd;refine Er (wr:=[z,TO,i1,i2]) (by simp) (fun i h st b hb=>?_) (fun i h h' st c=>?_) (fun b hb=>?_) (fun X hP hw hK hc i aa s σ H I hf st uo=>?_) fun A i s Q E st h=>wpAny_pyIter_zip st.1 h
 ·obtain⟨d,l,⟨a,Z,q⟩,⟨o4,r,_,N⟩,⟨o5,C,_,e5⟩⟩:=st
  simp at hb;rcases hb with rfl|rfl|rfl|rfl|rfl
  ·exact⟨_,d,fun v z=>by cases z⟩
  ·exact⟨_,l,fun v z=>by cases z⟩
  ·exact⟨_,q,fun v z=>by cases z⟩
  ·exact⟨_,r,fun v z=>by rw[N] at z;cases z⟩
  ·exact⟨_,C,fun v z=>by rw[e5] at z;cases z⟩
 ·obtain⟨d,l,⟨a,Z,q⟩,r,C⟩:=st
  exact⟨c z (by simp) _ d,c TI (by simp) _ l,⟨a,Z,c TO (by simp) _ q⟩,r.at fun o e=>c i1 (by simp) o e,C.at fun o e=>c i2 (by simp) o e⟩
 ·simp at hb ⊢
  rcases hb with rfl|rfl|rfl|rfl<;>simp
 ·subst hP hw hK
  have hd:∃xs ys,SqT X.K H L xs/\SqT X.K H M ys:=by
   rcases uo with ⟨xs,ys,a,b,_⟩|⟨xs,ys,a,b,_⟩
   ·exact⟨xs,ys,a,b⟩
   ·exact⟨xs,ys,a,b⟩
  obtain⟨xs,ys,q1,D⟩:=hd;obtain⟨us,r1,p1,_⟩:=I.tuple q1;obtain⟨ws,r2,p2,_⟩:=I.tuple D;have J:=r1.length;have bY:=r2.length;have hh:=I.ok.hd hc;obtain⟨d,l,q,r,C⟩:=st;have f:=fun b hb=>xQ I (hf b hb) q1;have O:=fun b hb=>xQ I (hf b hb) D;have AP:Zp.Apart z TI TO i1 i2 [i1,L] [i2,M]:=by
   refine⟨?_,?_,?_,?_,by simp,by simp,?_,?_,d1,d2,d3,d4,d5⟩
   ·simp;exact⟨d6,(f z (by simp)).symm⟩
   ·simp;exact⟨d7,(O z (by simp)).symm⟩
   ·simp;exact⟨d8,(f TO (by simp)).symm⟩
   ·simp;exact⟨d9,(O TO (by simp)).symm⟩
   ·simp;exact⟨Y,(O i1 (by simp)).symm⟩
   ·simp;exact⟨Y.symm,(f i2 (by simp)).symm⟩
  have WZ:=Zp.Eo (prog:=X.prog) (w:=X.w) (A:=X.A) (Zp.xO (A:=X.A.in1) hh i1 L (f i1 (by simp)) us.toArray) (Zp.xO (A:=X.A.in1) hh i2 M (O i2 (by simp)) ws.toArray) AP;refine⟨_,_,_,_,_,WZ,⟨d,l,q,⟨r,p1⟩,⟨C,p2⟩⟩,fun j h st=>⟨st.1,st.2.1,st.2.2.1,st.2.2.2.1.1,st.2.2.2.2.1⟩,fun g=>?_,fun g=>?_⟩
  ·obtain⟨F,G,T,U,hi⟩:=g
   have e1:=I.tuple_inj T q1;have e2:=I.tuple_inj U D;subst e1 e2;refine⟨by simpa[<-J,<-bY] using hi,fun vals hp=>?_⟩;obtain⟨x,y,px,py,rfl⟩:=hp;have rL:us[i]?=some x:=by simpa using px
   have W:ws[i]?=some y:=by simpa using py
   have lx:i<F.length:=ω
   have ly:i<G.length:=ω
   have gx:F[i]?=some F[i]:=by simp[lx]
   have gy:G[i]?=some G[i]:=by simp[ly]
   obtain⟨u,e3,ru⟩:=r1.get gx;obtain⟨u',N,fb⟩:=r2.get gy;rw[rL] at e3;cases e3;rw[W] at N;cases N;refine⟨[F[i],G[i]],.cons ru (.cons fb .nil),fP,fun p hp=>⟨p,_,_,rfl,hp,rfl,fun zs S=>?_,fun zs S=>?_⟩⟩
   ·rw[I.tuple_inj S q1];exact gx
   ·rw[I.tuple_inj S D];exact gy
  ·obtain⟨F,G,T,U,hi⟩:=g
   have e1:=I.tuple_inj T q1;have e2:=I.tuple_inj U D;subst e1 e2
   simpa[<-J,<-bY] using hi
def Et(e f:Addr)(xs ys:Array Value):Meets (Builtin.«zip.__new__» ⟨[.type "zip",.ref e,.ref f],[]⟩) (fun _ R s=>s.heap.IsTuple e xs/\s.heap.IsTuple f ys/\
   ∀h',IsZip h' (s⁻¹+4) (s⁻¹+2) (s⁻¹+3) .none->IsPair h' (s⁻¹+2) (.ref s⁻¹) (.ref (s⁻¹+1))->
   IsPair h' (s⁻¹+3) .none .none->h'.IsTupleIter s⁻¹ e 0->h'.IsTupleIter (s⁻¹+1) f 0->
   (∀c o,s.heap.get? c=some o->h'.get? c=some o)->R (.ok (.ret (.ref (s⁻¹+4)))) {s with heap:=h'}):=
 .of_wp fun prog w A R s h=>by
  obtain⟨hp,g,d,tk,os⟩:=s;obtain⟨i,j,h⟩:=h;have q:=sub_zip;have l:Heap.IsTuple (Shared.heap ⟨hp,g,d,tk,os⟩) e xs:=i;have p:Heap.IsTuple (Shared.heap ⟨hp.push {cls:=.type "tuple_iterator",data:=.fields #[.ref e,.int 0 0]},g,d,tk,os⟩) f ys:=Heap.IsTuple.push j _
  wp_walk using wpAny_pyIter_tuple l,wpAny_pyIter_tuple p
  refine⟨_,rfl,?_⟩;dsimp only at h ⊢;have a:∀(h:Heap)(o:Obj),(h.push o).objs.size=h.objs.size+1:=fun h o=>Bi ..;simp only[a,Nat.add_assoc,Nat.reduceAdd];refine h _ ?_ ?_ ?_ ?_ ?_ fun c o x=>Ac _ (Ac _ (Ac _ (Ac _ (Ac _ x))))
  ·exact Heap.get?_push_at (by simp only[a]) rfl
  ·exact Ac _ (Ac _ (Heap.get?_push_at (by simp only[a]) rfl))
  ·exact Ac _ (Heap.get?_push_at (by simp only[a]) rfl)
  ·exact⟨_,Ac _ (Ac _ (Ac _ (Ac _ (Av _ rfl)))),rfl,rfl⟩
  ·exact⟨_,Ac _ (Ac _ (Ac _ (Heap.get?_push_at (by simp only[a]) rfl))),rfl,rfl⟩
section
variable{X:Cx}{cF:List Expr}{k:Nat}{eW:Pos}
def rE(K:Ae)(ta:TA):TI:=fun σ H R=>ta σ H fun vs H1=>∃a c,vs=[.ref a,.ref c]/\(∃xs,SqT K H1 a xs)/\(∃ys,SqT K H1 c ys)/\R (ry K a c) H1
def Eu{a b:Expr}{ta:TA}{p pos:Pos}(G:Gl X "zip")(hm:X.mg "zip"=none)(J:Bh "zip"=some (.type "zip"))(L:PA X [a,b] ta)(hs:starEach [a,b] X.env=[(false,eval a X.env),(false,eval b X.env)]:=by rfl)(j:starEach [b] X.env=[(false,eval b X.env)]:=by rfl):PI X (.Tuple cF k eW) (.Call (.Name "zip" p) [a,b] [] pos) (rE X.K ta):=by
 intro aa s σ H R I h;refine Call_ (jg I G hm J (PyProof.Rows.callWith_type1 (bd (L pos aa s σ H _ I h) fun us c ⟨vs,H1,I1,l,q1⟩=>?_) (by rw[hs,j]) (by rw[j];rfl)));obtain⟨g,i,e,⟨xs,q1⟩,⟨ys,y⟩,q⟩:=q1;subst e;obtain⟨u,N,rfl,A,C⟩:=vals2 l;cases A;cases C;obtain⟨D,_,p1,_⟩:=I1.tuple q1;obtain⟨E,_,p2,_⟩:=I1.tuple y;refine callType_new F.called_zip ξ (F.typeCall_zip_2 _ _) (F.newCall_zip_2 _ _) (fun obj=>F.args_object_init_3 obj _ _) F.entry_zip_new (Et g i D.toArray E.toArray) ⟨p1,p2,fun h' f o r v w x=>?_⟩;refine⟨⟨_,f,rfl⟩,wpAny_pyIter_zip f ?_⟩;have M:Inv X aa σ H1 {c with heap:=h'}:=I1.kept (t':=c.toks) x;refine⟨c⁻¹+4,[c⁻¹+4,c⁻¹+2,c⁻¹+3,c⁻¹,c⁻¹+1],_,_,H1,rfl,M,Es g i _ _ _ _ _ (by refine⟨?_,?_,?_,?_,?_,?_,?_,?_,?_,?_⟩<;>(intro z;have O:(_:Nat)=_:=z;omega)),⟨f,o,⟨_,_,r⟩,v,w⟩,fun b hb=>?_,q⟩;have d:c⁻¹<=b:=by
  simp only[List.mem_cons,List.not_mem_nil,or_false] at hb;rcases hb with rfl|rfl|rfl|rfl|rfl
  ·exact Nat.le_add_right _ _
  ·exact Nat.le_add_right _ _
  ·exact Nat.le_add_right _ _
  ·exact Ag _
  ·exact Nat.le_add_right _ _
 exact I1.fpOk d (I1.hok.fresh d)
def dk:∀{bs:List Bool}{us:List Value},Vals (bs.map V.bl) us->LSm.BoolsAre us bs
 |[],_,.nil=>.nil
 |b::bs,_,.cons r t=>by cases r;exact .cons b (dk t)
def nq(hc:X.calm=true):dg X (.builtin "all") (fun xs H Q=>∃(l:Addr)(bs:List Bool),xs=[.ref l]/\SqL X.K H l (bs.map V.bl)/\Q (.bl (bs.all id)) H):=by
 intro aa s σ H xs us Q I r h;obtain⟨l,bs,rfl,hq,q⟩:=h;obtain⟨u,rfl,j⟩:=vals1 r;cases j;obtain⟨a,o,p1,_⟩:=I.list hq;have p:=I.ok.hd hc;have c:=p1.isList;have hb:=dk o;have d:l<s⁻¹:=by obtain⟨_,e,_⟩:=c;exact Ah e
 refine call_all_walk (wpAny_pyIter_list c ?_);refine⟨s⁻¹,[s⁻¹,l],[s⁻¹],a.toArray.size,_,_,fun i=>(bs[i]?).getD true,rfl,Walks.list (A:=X.A.in1) p _ l (Al d) a.toArray,
  ⟨⟨_,Av _ rfl,rfl,rfl⟩,c.push _⟩,fun i v s' w x g f=>?_,fun h' tk hk=>?_⟩
 ·obtain⟨b,e,rfl⟩:=hb.get i v (by simpa using g)
  simp only[e,Option.getD_some] at f;exact wpAny_truthy_bool f
 ·have e:((AQ a.toArray.size).all fun i=>(bs[i]?).getD true)=bs.all id:=by
   rw[Am,hb.length];exact LSm.range_all bs
  rw[e];exact⟨.bl _,H,I.kept (LSm.kept_iter hk),rfl,q⟩
end
section
variable{K:Ae}{a:Addr}{xs:List V}{g:TG}{tc:TT}{te:TE}{σ:St}{H1:Hp}{Q:VK}{D:Addr}
def rH(n:Nat)(a:Nat->St->List V->Hp->Prop)(i m:Nat)(σ:St)(H:Hp):Prop:=m=n-i/\i<=n/\∃ys,ys.length<=i/\a i σ ys H
def ew(n:Nat)(e:Nat->St->List V->Hp->Prop)(D:Addr)(i:Nat)(d:St):VK:=fun y c=>∃ys a,c D=some (.lst ys)/\ys.length<sizeLine/\a<n-i/\rH n e (i+1) a d (upd c D (.lst (ys++[y])))
def cC(n:Nat)(d:Nat->St->List V->Hp->Prop)(i:Nat)(c:St)(e:Hp):Prop:=∃a,a<n-i/\rH n d (i+1) a c e
def bO{n:Nat}{d:Nat->St->List V->Hp->Prop}{i:Nat}{c:St}{ys:List V}{y:V}{a:Hp}(f:n<=sizeLine)(hi:i<n)(g:ys.length<=i)(e:a D=some (.lst ys))(p:d (i+1) c (ys++[y]) (upd a D (.lst (ys++[y])))):ew n d D i c y a:=
 ⟨ys,n-(i+1),e,ω,ω,rfl,hi,ys++[y],by simp;omega,p⟩
def eX{n:Nat}{c:Nat->St->List V->Hp->Prop}{i:Nat}{a:St}{ys:List V}{d:Hp}(hi:i<n)(e:ys.length<=i)(p:c (i+1) a ys d):cC n c i a d:=
 ⟨n-(i+1),ω,rfl,hi,ys,ω,p⟩
def kQ{J:It}(n:Nat)(a:Nat->St->List V->Hp->Prop)(l:a 0 σ [] (upd H1 D (.lst [])))(o:∀σ ys H,a n σ ys H->J.stop n H)(q:∀i σ ys H,i<n->a i σ ys H->J.go i H)(hs:∀i σ ys H x H',i<n->ys.length<=i->a i σ ys H->J.yld i H x H'->g x σ H' fun d r=>tc d r fun b h=>if b=true then te d h (ew n a D i d) else cC n a i d h)(hd:∀σ ys H,a n σ ys H->Q (.ref D) H):cw J g tc te σ H1 D Q:=by
 refine⟨rH n a,⟨n,by simp,AW _,[],Ag _,l⟩,?_⟩;rintro i m f H2 ⟨rfl,hi,ys,j,p⟩
 by_cases c:i<n
 ·exact .inr ⟨q i f ys H2 c p,fun x s y=>hs i f ys H2 x s c j p y⟩
 ·have e:i=n:=ω
  subst e;exact .inl ⟨o f ys H2 p,hd f ys H2 p⟩
def zR(c:Nat->St->List V->Hp->Prop)(j:c 0 σ [] (upd H1 D (.lst [])))(f:∀i σ ys H,c i σ ys H->SqL K H a xs)(hs:∀i σ ys H x,xs[i]?=some x->i<xs.length->ys.length<=i->c i σ ys H->g x σ H fun d l=>tc d l fun b h=>if b=true then te d h (ew xs.length c D i d) else cC xs.length c i d h)(hd:∀σ ys H,c xs.length σ ys H->Q (.ref D) H):cw (du K a) g tc te σ H1 D Q:=by
 refine kQ xs.length c j (fun σ ys H p=>⟨xs,f _ _ _ _ p,Ag _⟩) (fun i σ ys H hi p=>⟨xs,xs[i],f _ _ _ _ p,by simp[hi]⟩) (fun i σ ys H x H' hi hy p y=>?_) hd;obtain⟨e,y⟩:=y;subst e;exact hs i σ ys _ x (y xs (f _ _ _ _ p)) hi hy p
def rN(c:Nat->St->List V->Hp->Prop)(j:c 0 σ [] (upd H1 D (.lst [])))(f:∀i σ ys H,c i σ ys H->SqT K H a xs)(hs:∀i σ ys H x,xs[i]?=some x->i<xs.length->ys.length<=i->c i σ ys H->g x σ H fun d l=>tc d l fun b h=>if b=true then te d h (ew xs.length c D i d) else cC xs.length c i d h)(hd:∀σ ys H,c xs.length σ ys H->Q (.ref D) H):cw (gm K a) g tc te σ H1 D Q:=by
 refine kQ xs.length c j (fun σ ys H p=>⟨xs,f _ _ _ _ p,Ag _⟩) (fun i σ ys H hi p=>⟨xs,xs[i],f _ _ _ _ p,by simp[hi]⟩) (fun i σ ys H x H' hi hy p y=>?_) hd;obtain⟨e,y⟩:=y;subst e;exact hs i σ ys _ x (y xs (f _ _ _ _ p)) hi hy p
def xR{lo:Int}{n:Nat}(a:Nat->St->List V->Hp->Prop)(f:a 0 σ [] (upd H1 D (.lst [])))(hs:∀i σ ys H,i<n->ys.length<=i->a i σ ys H->g (.int (lo+i)) σ H fun c h=>tc c h fun b d=>if b=true then te c d (ew n a D i c) else cC n a i c d)(hd:∀σ ys H,a n σ ys H->Q (.ref D) H):cw (gn lo n) g tc te σ H1 D Q:=by
 refine kQ n a f (fun σ ys H p=>Ag _) (fun i σ ys H hi p=>hi) (fun i σ ys H x H' hi hy p y=>?_) hd;obtain⟨e,y⟩:=y;subst e y;exact hs i σ ys _ hi hy p
def Ev{e f:Addr}{ys:List V}(a:Nat->St->List V->Hp->Prop)(r:a 0 σ [] (upd H1 D (.lst [])))(c:∀i σ zs H,a i σ zs H->SqT K H e xs/\SqT K H f ys)(hs:∀i σ zs H p x y,xs[i]?=some x->ys[i]?=some y->i<min xs.length ys.length->zs.length<=i->a i σ zs H->H p=none->g (.ref p) σ (upd H p (.tup [x,y])) fun d s=>tc d s fun b h=>if b=true then te d h (ew (min xs.length ys.length) a D i d) else cC (min xs.length ys.length) a i d h)(hd:∀σ zs H,a (min xs.length ys.length) σ zs H->Q (.ref D) H):cw (ry K e f) g tc te σ H1 D Q:=by
 refine kQ (min xs.length ys.length) a r (fun σ zs H p=>⟨xs,ys,(c _ _ _ _ p).1,(c _ _ _ _ p).2,rfl⟩) (fun i σ zs H hi p=>⟨xs,ys,(c _ _ _ _ p).1,(c _ _ _ _ p).2,hi⟩) (fun i σ zs H v H' hi hy p y=>?_) hd;obtain⟨j,x,l,rfl,hp,rfl,o,q⟩:=y;exact hs i σ zs H j x l (o xs (c _ _ _ _ p).1) (q ys (c _ _ _ _ p).2) hi hy p hp
end
end L2
end
section
namespace Dk
open PySem PySem.Spec PyProof.Rows
def IsD(h:Heap)(d:Addr)(es:Array DictEntry)(ep:Nat):Prop:=∃o,h.get? d=some o/\o.ExactDict/\o.data=.dict es ep
def IsD.at{h h':Heap}{d:Addr}{es:Array DictEntry}{ep:Nat}(x:IsD h d es ep)(k:∀o,h.get? d=some o->h'.get? d=some o):IsD h' d es ep:=let ⟨o,ho,r⟩:=x;⟨o,k o ho,r⟩
def IsD.lt{h:Heap}{d:Addr}{es:Array DictEntry}{ep:Nat}(x:IsD h d es ep):d<h.objs.size:=let ⟨_,ho,_⟩:=x;Ah ho
section
variable{prog:Program}{w:World}{A:Around}{E:Ω}{s:Shared}{it d:Addr}{i ep:Nat}{es:Array DictEntry}
def IsD.typeIs(x:IsD s.heap d es ep):s.TypeIs (.ref d) "dict":=let ⟨o,ho,r⟩:=x;⟨o,ho,r.1.1⟩
def iter{Q:Ω}(hd:(d==sysModules)=false)(hm:IsD s.heap d es ep)(f:Q (.ref s⁻¹) {s with heap:=s.heap.push {cls:=.type "dict_keyiterator",data:=.fields #[.ref d,.int 0 0,.int es.size 0,.int ep 0]}}):wpAny (model prog w) A (pyIter (.ref d)) Q E s:=by
 have a:=hm.typeIs;obtain⟨o,c,hc,e⟩:=id hm;refine wpAny_pyIter_slot a PySem.F.slot_dict_iter (Ba PySem.F.slot_dict_iter a PySem.F.entry_dict_iter ?_ (PySem.F.args_dict_iter_1 _));unfold Builtin.«dict.__iter__»;refine Aa ?_;unfold Builtin.Dict.dictSlotNone;refine Aa (wpAny_notOrdered_dict a ?_);show wpAny _ _ (pure (Value.ref d)) _ _ s;refine Ad ?_;show wpAny _ _ (Builtin.Dict.showsAll d >>= _) _ _ s;unfold Builtin.Dict.showsAll;rw[if_neg (by rw[hd];exact Ax)];refine Aa (Ad ?_);refine Aa (wpAny_dictEntries c e ?_);refine Aa (wpAny_dictEpoch c e ?_);refine Aa (AS (Ad ⟨_,rfl,"dict_keyiterator",_,⟨_,Av _ rfl,rfl⟩,PySem.F.slot_dict_keyiterator_next.lookup,?_⟩))
 simpa[rawInt] using f
def item{Q:Option Value->Shared->Prop}(a:s.heap.IsKeyIter it d i es.size ep)(hm:IsD s.heap d es ep)(hx:i<es.size)(j:∀h',h'.IsKeyIter it d (i+1) es.size ep->A4 it s.heap h'->Q (some es[i].key) {s with heap:=h'}):wpAny (model prog w) A (pyNext (.ref it)) Q E s:=by
 obtain⟨o,c,hc,hd⟩:=id a;obtain⟨l,e,p,f⟩:=id hm;unfold pyNext;refine Aa (wpAny_attempt (wpAny_callSpecial?_slot (name:=Str.ofString "__next__") a.typeIs PySem.F.slot_dict_keyiterator_next
  (Ba PySem.F.slot_dict_keyiterator_next a.typeIs PySem.F.entry_dict_keyiterator_next ?_ (PySem.F.args_dict_keyiterator_next_1 _))))
 refine Aa (Ad ?_);refine Aa ?_;refine Aa ?_
 first|refine Aa (wpAny_typeNameOfWhole_keyiter a.typeIs (Ad ?_))|refine Aa (wpAny_typeNameOf_keyiter a.typeIs (Ad ?_))
 refine Aa (wpAny_fieldsOf c hd ?_);have h:Builtin.Dict_items.ownsTuple "dict_keyiterator"=false:=ξ
 simp only[h,Ai,if_false];show wpAny _ _ (if(Value.ref d==Value.none)=true then _ else _) _ _ s;rw[if_neg (show ¬((Value.ref d==Value.none)=true) from Ax)];refine Aa (Ad ?_);refine Aa (wpAny_dictEntries e f ?_);rw[if_neg (by simp)];refine Aa (Ad ?_);refine Aa (wpAny_dictEpoch e f ?_);rw[if_neg (by simp)];refine Ad ?_;simp only[show ¬((i:Int)<0) from ω,if_false,Int.toNat_natCast,Array.getElem?_eq_getElem hx];refine Aa ?_
 first|refine Aa (wpAny_typeNameOfWhole_keyiter a.typeIs (Ad ?_))|refine Aa (wpAny_typeNameOf_keyiter a.typeIs (Ad ?_))
 refine Aa (wpAny_isOneOf_keyiter a.typeIs ?_);show wpAny _ _ (setField (.ref it) 1 (rawInt ((i:Int)+1)) >>= _) _ _ s;refine Aa (wpAny_setField c hd (by simp) ?_);have g:(s.heap.update it (Obj.mapFields (·.setIfInBounds 1 (rawInt ((i:Int)+1))))).IsKeyIter it d (i+1) es.size ep:=
  ⟨_,Heap.get?_update_self _ c (Obj.isFreed_of_fields (Obj.data_mapFields hd _)),(Obj.cls_mapFields ..).trans hc,by rw[Obj.data_mapFields hd];simp[rawInt]⟩
 refine Aa (A0 ?_);refine Aa (wpAny_isOneOf_keyiter (s:={s with heap:=s.heap.update it (Obj.mapFields (·.setIfInBounds 1 (rawInt ((i:Int)+1))))}) g.typeIs ?_);show wpAny _ _ (pure es[i].key) _ _ _;exact Ad (Ad ⟨_,rfl,Ad (j _ g (A6 ..))⟩)
def done{Q:Option Value->Shared->Prop}(i:A.handled=none)(c:s.heap.IsKeyIter it d es.size es.size ep)(hm:IsD s.heap d es ep)(j:∀h',Heap.ExtBut it s.heap h'->Q none {s with heap:=h'}):wpAny (model prog w) A (pyNext (.ref it)) Q E s:=by
 obtain⟨o,e,hc,hd⟩:=id c;obtain⟨l,f,p,g⟩:=id hm;unfold pyNext;refine Aa (wpAny_attempt (wpAny_callSpecial?_slot (name:=Str.ofString "__next__") c.typeIs PySem.F.slot_dict_keyiterator_next
  (Ba PySem.F.slot_dict_keyiterator_next c.typeIs PySem.F.entry_dict_keyiterator_next ?_ (PySem.F.args_dict_keyiterator_next_1 _))))
 refine Aa (Ad ?_);refine Aa ?_;refine Aa ?_
 first|refine Aa (wpAny_typeNameOfWhole_keyiter c.typeIs (Ad ?_))|refine Aa (wpAny_typeNameOf_keyiter c.typeIs (Ad ?_))
 refine Aa (wpAny_fieldsOf e hd ?_);have h:Builtin.Dict_items.ownsTuple "dict_keyiterator"=false:=ξ
 simp only[h,Ai,if_false];show wpAny _ _ (if(Value.ref d==Value.none)=true then _ else _) _ _ s;rw[if_neg (show ¬((Value.ref d==Value.none)=true) from Ax)];refine Aa (Ad ?_);refine Aa (wpAny_dictEntries f g ?_);rw[if_neg (by simp)];refine Aa (Ad ?_);refine Aa (wpAny_dictEpoch f g ?_);rw[if_neg (by simp)];refine Ad ?_;simp only[show ¬((es.size:Int)<0) from ω,if_false,Int.toNat_natCast,Array.getElem?_eq_none (Ag es.size)];refine Aa ?_
 first|refine Aa (wpAny_typeNameOfWhole_keyiter c.typeIs (Ad ?_))|refine Aa (wpAny_typeNameOf_keyiter c.typeIs (Ad ?_))
 show wpAny _ _ (setField (.ref it) 0 .none >>= _) _ _ s;refine Aa (wpAny_setField e hd (by simp) ?_);show wpAny _ _ (newExc (.type "StopIteration") [] >>= _) _ _ _;refine Aa ?_;simp only[newExc,newTuple];refine Aa (AS ?_ (by size_fits));refine Aa (m:=firstArgMember _ _) (wpAny_of_eq (a:=Value.none) (by first|rfl|(simp only[firstArgMember];rfl)) ?_);refine AS ?_ (by size_fits);simp only[raiseNew];refine Aa (wpAny_handled ?_);rw[show A.in1.handled=none from i];refine Aa (Ad (wpAny_throw ?_));refine Aa (wpAny_isInstance (T:="StopIteration") (b:=true) ⟨_,Av _ rfl,rfl⟩ isSubtype_stop ?_);exact Ad (j _ (((A6 ..).extBut.push _).push _))
def walks(l:A.handled=none)(I d:Addr)(c:d≠I)(es:Array DictEntry)(ep:Nat):Walks prog w A I [I,d] [I] es.size (fun i v=>∃e,es[i]?=some e/\v=e.key) (fun i h=>h.IsKeyIter I d i es.size ep/\IsD h d es ep) where
 sub:=fun b hb=>by simp at hb ⊢;exact .inl hb
 frame:=fun i h h' st k=>⟨let ⟨o,ho,r⟩:=st.1;⟨o,k I (by simp) o ho,r⟩,st.2.at fun o e=>k d (by simp) o e⟩
 item:=fun i s Q E hi st a=>item st.1 st.2 hi fun h' g f=>a _ h' s.toks ⟨es[i],by simp[hi],rfl⟩ ⟨g,st.2.at fun o e=>(f.2 d c).trans e⟩ fun b o hb e=>(f.2 b (fun z=>hb (by simp[z]))).trans e
 done:=fun s Q E st a=>done l st.1 st.2 fun h' j=>a h' s.toks fun b o hb e=>j b o (fun z=>hb (by simp[z])) e
 self:=fun i s Q E st a=>wpAny_pyIter_keyiter st.1 a
def src(lo:(d==sysModules)=false):PySem.W.KdlSrc prog w "dict" d d es.size (fun i v=>∃e,es[i]?=some e/\v=e.key) (fun h=>IsD h d es ep) where
 type:=fun _ hm=>hm.typeIs
 there:=fun _ hm=>⟨hm.lt,hm.lt⟩
 keep:=fun _ _ hm hk=>hm.at fun o e=>hk d (.inl rfl) o e
 notList:=ξ
 notTuple:=ξ
 hint:=fun _ _ _ _ hm hq=>PySem.W.kdl_hint_dict hm.typeIs hq
 iter:=fun _ s a hm=>⟨_,_,(fun _ _ hq=>iter lo hm hq),walks a _ d (Al hm.lt) es ep,⟨⟨_,Av _ rfl,rfl,rfl⟩,hm.at fun o e=>Ac _ e⟩⟩
end
end Dk
namespace L2
open PySem PySem.Spec PyProof.Rows
section
variable{X:Cx}
def Ew{P:Program}{w:World}{k:Key}{u:Value}(h:(zH P w).is k u=true):RelV (kV k) u:=by
 rcases aN h with ⟨i,t,rfl,rfl⟩|⟨x,t,rfl,rfl⟩
 ·exact⟨t,rfl⟩
 ·exact⟨t,rfl⟩
def xS(hc:X.calm=true):dg X (.type "list") (fun xs H Q=>∃a kvs,xs=[.ref a]/\H a=some (.dT kvs)/\
  ∀(bs:List Addr),Paired (fun(p:List Key×V) b=>H b=some (.tup (p.1.map kV))) kvs bs->∀l,H l=none->Q (.ref l) (upd H l (.lst (bs.map V.ref)))):=by
 intro aa s σ H xs us Q I r h;obtain⟨a,kvs,rfl,hq,q⟩:=h;obtain⟨u,rfl,v⟩:=vals1 r;cases v;obtain⟨z,y,ys,c,o,es,ep,h1,h2,x,d,F⟩:=(show zQ X.prog X.w H s.heap a (.dT kvs) from I.hok a _ hq);have f:es.size=kvs.length:=by
  have:=congrArg List.length d;rw[Ab,<-Paired.length c] at this
  simpa using this
 refine PySem.W.kdl_call (Dk.src (ep:=ep) (es:=es) y) (I.ok.hd hc) ⟨o,h1,h2,x⟩ (by rw[f];exact z) fun h' tk acc g j e it=>?_;obtain⟨n1,n2⟩:=it;have C:Paired (fun(p:List Key×V) b=>H b=some (.tup (p.1.map kV))) kvs (ys.map (·.2.1)):=by
  have:∀{l:List (List Key×V)}{m:List (List Key×Addr×Value)},KT H l m->Paired (fun(p:List Key×V) b=>H b=some (.tup (p.1.map kV))) l (m.map (·.2.1)):=by
   intro l m q
   induction q with
   |nil=>exact .nil
   |cons hq t ih=>exact .cons hq.2.1 ih
  exact this c
 have D:acc.toList=(ys.map (·.2.1)).map Value.ref:=by
  apply List.ext_getElem?;intro i;have hy:ys.length=acc.size:=by rw[n1,f];exact(Paired.length c).symm
  by_cases hi:i<acc.size
  ·obtain⟨A,g1,g2⟩:=n2 i acc[i] (by simp[hi])
   have g3:es.toList[i]?=some A:=by simpa using g1
   rw[d,Ar] at g3;have g4:ys[i]?=some ys[i]:=by simp[hy,hi]
   rw[g4] at g3;simp only[Option.map_some,Option.some.injEq] at g3;simp only[Ar,g4,Option.map_some,AD,Array.getElem?_eq_getElem hi];rw[g2,<-g3]
   rfl
  ·have g1:acc.toList.length<=i:=by simp;omega
   have g2:((ys.map (·.2.1)).map Value.ref).length<=i:=by simp[hy];omega
   rw[List.getElem?_eq_none g1,List.getElem?_eq_none g2]
 have E:Vals ((ys.map (·.2.1)).map V.ref) acc.toList:=by
  rw[D];generalize ys.map (·.2.1)=bs
  induction bs with
  |nil=>exact .nil
  |cons b bs ih=>exact .cons rfl ih
 refine⟨.ref s⁻¹,_,I.laid j (Ag _) (show zQ X.prog X.w _ h' _ (.lst ((ys.map (·.2.1)).map V.ref)) from⟨?_,acc.toList,g,E,by simpa using e⟩),rfl,q _ C _ (I.hok.fresh (Ag _))⟩;simp only[Ab];rw[<-Paired.length c];exact z
def Ex(hc:X.calm=true):dg X (.type "list") (fun xs H Q=>∃a kvs,xs=[.ref a]/\H a=some (.dK kvs)/\∀l,H l=none->Q (.ref l) (upd H l (.lst (kvs.map fun c=>kV c.1)))):=by
 intro aa s σ H xs us Q I r h;obtain⟨a,kvs,rfl,hq,q⟩:=h;obtain⟨u,rfl,j⟩:=vals1 r;cases j;obtain⟨z,y,vs,d,dd⟩:=xi I.hok hq;obtain⟨ep,dd⟩:=dd.dictAt;have o:=d.length;refine PySem.W.kdl_call (PySem.W.kdl_dict (knd:=zH X.prog X.w) (kvs:=vs) (ep:=ep) y) (I.ok.hd hc) dd (by rw[<-o];exact z) fun h' tk acc f g e it=>?_;obtain⟨n1,n2⟩:=it;have A:Vals (kvs.map fun c=>kV c.1) acc.toList:=by
  have key:∀{l:List (Key×V)}{m:List (Key×Value)}{as:List Value},KV l m->as.length=m.length->(∀(i:Nat) v,as[i]?=some v->∃k x,m[i]?=some (k,x)/\(zH X.prog X.w).is k v=true)->Vals (l.map fun c=>kV c.1) as:=by
   intro l m as q
   induction q generalizing as with
   |nil=>intro h1 _;cases as with
    |nil=>exact .nil
    |cons _ _=>simp at h1
   |@cons p q' ps qs hq t ih=>
    intro h1 h2;cases as with
    |nil=>simp at h1
    |cons v as=>
     obtain⟨k,x,g1,g2⟩:=h2 0 v rfl;simp only[List.getElem?_cons_zero,Option.some.injEq] at g1;refine .cons ?_ (ih (by simpa using h1) fun i v e=>by simpa using h2 (i+1) v (by simpa using e));have:p.1=k:=by rw[hq.1,g1]
     show RelV (kV p.1) v;rw[this];exact Ew g2
  exact key d (by simpa using n1) fun i v e=>n2 i v (by simpa using e)
 refine⟨.ref s⁻¹,_,I.laid g (Ag _) (show zQ X.prog X.w _ h' _ (.lst (kvs.map fun c=>kV c.1)) from⟨?_,acc.toList,f,A,by simpa using e⟩),rfl,q _ (I.hok.fresh (Ag _))⟩
 simpa using z
end
end L2
end
section
namespace L2
open PySem PySem.Spec PyProof.Rows
def Tp(H:Hp)(a:Addr)(ps:List Int):Prop:=H a=some (.tup (ps.map V.int))
abbrev Tps(H:Hp)(as:List Addr)(pss:Ξ):Prop:=Paired (fun a ps=>Tp H a ps) as pss
def Same.tp{H H':Hp}{a:Addr}{ps:List Int}(e:Same H H')(h:Tp H a ps):Tp H' a ps:=e _ _ h
def Same.tps{H H':Hp}{as:List Addr}{pss:Ξ}(e:Same H H')(h:Tps H as pss):Tps H' as pss:=Paired.mapP h fun _ _ q=>e.tp q
def Same.new{H:Hp}{a:Addr}{o:HO}(h:H a=none):Same H (upd H a o):=fun b u e=>by rw[zi (zj e h)];exact e
def Same.then{H H1:Hp}{a:Addr}{o:HO}(e:Same H H1)(h:H a=none):Same H (upd H1 a o):=fun b u q=>by rw[zi (zj q h)];exact e b u q
def Tps.length{H:Hp}{as:List Addr}{pss:Ξ}(h:Tps H as pss):as.length=pss.length:=Paired.length h
def Tps.get{H:Hp}:∀{as:List Addr}{pss:Ξ}{i:Nat}{a:Addr},Tps H as pss->as[i]?=some a->∃ps,pss[i]?=some ps/\Tp H a ps
 |_,_,_,_,.nil,e=>by simp at e
 |_,_,0,_,.cons r _,e=>by simp at e;subst e;exact⟨_,rfl,r⟩
 |_,_,i+1,a,.cons _ t,e=>by
  obtain⟨u,h1,h2⟩:=Tps.get (i:=i) (a:=a) t (by simpa using e);exact⟨u,by simpa using h1,h2⟩
def Tps.snoc{H:Hp}{as:List Addr}{pss:Ξ}{a:Addr}{ps:List Int}(h:Tps H as pss)(q:Tp H a ps):Tps H (as++[a]) (pss++[ps]):=by
 induction h with
 |nil=>exact .cons q .nil
 |cons r t ih=>exact .cons r ih
def Tps.append{H:Hp}{as bs:List Addr}{pss a:Ξ}(h:Tps H as pss)(q:Tps H bs a):Tps H (as++bs) (pss++a):=by
 induction h with
 |nil=>exact q
 |cons r t ih=>exact .cons r ih
def Tps.take{H:Hp}:∀{as:List Addr}{pss:Ξ}(n:Nat),Tps H as pss->Tps H (as.take n) (pss.take n)
 |_,_,0,_=>.nil
 |_,_,_+1,.nil=>.nil
 |_,_,n+1,.cons r t=>.cons r (Tps.take n t)
def Tps.drop{H:Hp}:∀{as:List Addr}{pss:Ξ}(n:Nat),Tps H as pss->Tps H (as.drop n) (pss.drop n)
 |_,_,0,r=>r
 |_,_,_+1,.nil=>.nil
 |_,_,n+1,.cons _ t=>Tps.drop n t
def bw:∀{as:List Addr}{us:List Value},Vals (as.map V.ref) us->us=as.map Value.ref
 |[],_,.nil=>rfl
 |a::as,_,.cons r t=>by cases r;rw[bw t];rfl
def rP{c:Type}(f:c->Addr):∀l:List c,Vals (l.map fun q=>V.ref (f q)) (l.map fun q=>Value.ref (f q))
 |[]=>.nil
 |a::l=>.cons rfl (rP f l)
section
variable{X:Cx}
def xT{prog:Program}{w:World}{h:Heap}{c:Addr}{cs:List Value}{a:List Int}(hc:IsTup h c cs.toArray)(hi:IntsAre cs a):AZ (zH prog w) h (a.map Sum.inl) c:=by
 obtain⟨o,e,f,k,d⟩:=hc;refine⟨o,cs.toArray,k,e,f,d,?_⟩;have:∀{cs:List Value}{a:List Int},IntsAre cs a->ItemsAre (zH prog w) (a.map Sum.inl) cs:=by
  intro cs a hi
  induction hi with
  |nil=>exact .nil
  |cons n t h ih=>exact .cons (oW prog w n t) ih
 simpa using this hi
def xU{ps a:List Int}:(ps.map Sum.inl:List Key)=a.map Sum.inl↔ps=a:=
 ⟨fun z=>(List.map_inj_right (f:=(Sum.inl:Int->Key)) (fun x y h=>Sum.inl.inj h)).mp z,fun z=>by rw[z]⟩
def Ey{aa:Ψ}{σ:St}{H:Hp}{s:Shared}{A:Around}{a b:Addr}{ps c:List Int}(I:Inv X aa σ H s)(f:Tp H a ps)(hb:Tp H b c)(hu:A.units<cLine):SeqAt.EqAt A s (.ref a) (.ref b) (decide (ps=c)):=by
 intro prog w E Q h;obtain⟨g,d,p1,_⟩:=I.tuple (SqT.of f);obtain⟨i,e,p2,_⟩:=I.tuple (SqT.of hb);refine wpAny_eqBool_tuple (knd:=zH prog w) hu (xT p1 (intsAre_of d)) (xT p2 (intsAre_of e)) ?_;rw[show decide ((ps.map Sum.inl:List Key)=c.map Sum.inl)=decide (ps=c) from by simp only[xU]];exact h
def rR:R2:=fun x y H Q=>∃a b xs ys,x=.ref a/\y=.ref b/\H a=some (.tup xs)/\H b=some (.tup ys)/\xs.length+ys.length<=sizeLine/\∀p H',Same H H'->H' p=some (.tup (xs++ys))->Q (.ref p) H'
def rV:bZ X (binaryOp .Add) rR:=by
 intro aa s σ H x y v u Q I p r h;obtain⟨a,b,xs,ys,rfl,rfl,e,hb,f,q⟩:=h;cases p;cases r;obtain⟨G,c,p1,_⟩:=I.tuple (SqT.of e);obtain⟨w,d,p2,_⟩:=I.tuple (SqT.of hb)
 by_cases hx:xs=[]
 ·subst hx
  have e1:=c.nil_iff.mpr rfl;subst e1;obtain⟨⟨cls,dd,data,A⟩,g,hc,n,hd⟩:=id p1;obtain⟨⟨J,C,data2,D⟩,i,j,n2,l⟩:=id p2;simp only at hc hd j l;subst hc hd j l;exact concat_meets ⟨_,g,rfl⟩ ⟨_,i,rfl⟩ noFill_tuple_add seq_tuple_add PySem.F.slot_tuple_add PySem.F.entry_tuple_add (PySem.F.args_tuple_add_2 _ _)
   (tuple_addW0 a b (List.toArray []) w.toArray n n2 dd C A D (by simp)) ⟨g,i,.ref b,H,I,rfl,q b H (Same.refl H) (by simpa using hb)⟩
 ·refine HT.Dq p1 p2 (fun z=>hx (c.nil_iff.mp z)) (fun z=>⟨.ref a,H,I,rfl,q a H (Same.refl H) ?_⟩) (fun z=>?_) (by rw[<-c.length,<-d.length];exact f)
  ·rw[d.nil_iff.mp z,List.append_nil];exact e
  ·have hf:=I.hok.fresh (Ag s⁻¹)
   refine⟨.ref s⁻¹,_,I.laid (t':=s.toks) (o:=.tup (xs++ys)) (fun b E q=>Ac _ q) (Ag _) ?_,rfl,q _ _ (Same.new hf) am⟩;exact⟨by rw[Aq];exact f,_,c.append d,IsTup.new _ _⟩
def sd(neg:Bool)(K:Ae):R2:=fun x y H Q=>∃a l ps as pss,x=.ref a/\y=.ref l/\Tp H a ps/\SqL K H l (as.map V.ref)/\Tps H as pss/\Q (.bl (if neg then !decide (ps∈pss) else decide (ps∈pss))) H
def jA(H:Hp)(ps:List Int)(u:Value):Bool:=match u with
 |.ref b=>(match H b with|some (.tup xs)=>decide (xs=ps.map V.int)|_=>false)
 |_=>false
def Ez{ps a:List Int}:(ps.map V.int:List V)=a.map V.int↔ps=a:=
 ⟨fun z=>(List.map_inj_right (f:=V.int) (fun x y h=>V.int.inj h)).mp z,fun z=>by rw[z]⟩
def xV{H:Hp}{b:Addr}{ps a:List Int}(h:Tp H b a):jA H ps (.ref b)=decide (a=ps):=by
 show(match H b with|some (.tup xs)=>decide (xs=ps.map V.int)|_=>false)=_;rw[show H b=some (.tup (a.map V.int)) from h];simp only[Ez]
def EA{H:Hp}{ps:List Int}{as:List Addr}{pss:Ξ}(h:Tps H as pss):(as.map Value.ref).any (jA H ps)=decide (ps∈pss):=by
 induction h with
 |nil=>simp
 |@cons a qs as pss r t ih=>
  rw[AT,List.any_cons,ih,xV r]
  by_cases e:qs=ps
  ·subst e;simp
  ·have:¬ps=qs:=fun z=>e z.symm
   simp[e,this]
def EC{aa:Ψ}{σ:St}{H:Hp}{s:Shared}{A:Around}{a:Addr}{ps:List Int}(I:Inv X aa σ H s)(c:Tp H a ps)(hu:A.units<cLine):∀{as:List Addr}{pss:Ξ},Tps H as pss->∀u∈as.map Value.ref,SeqAt.EqAt A s u (.ref a) (jA H ps u):=by
 intro as pss h
 induction h with
 |nil=>intro u hu;simp at hu
 |@cons b qs as pss r t ih=>
  intro u hm;rw[AT] at hm;rcases List.mem_cons.mp hm with rfl|hm
  ·rw[xV r];exact Ey I r c hu
  ·exact ih u hm
def ED(hu:X.A.in1.units<cLine):bZ X (compareOp .NotIn) (sd true X.K):=by
 intro aa s σ H x y v u Q I c d h;obtain⟨a,l,ps,as,pss,rfl,rfl,e,f,hp,q⟩:=h;cases c;cases d;obtain⟨i,r,g,j⟩:=I.list f;obtain rfl:=bw r;refine SeqAt.notIn_listAt (jA H ps) g.isList (fun w hw=>EC I e hu hp w (by simpa using hw)) ⟨.bl _,H,I,rfl,?_⟩;rw[show(as.map Value.ref).toArray.any (jA H ps)=(as.map Value.ref).any (jA H ps) by simp,EA hp];exact q
def kR{aa:Ψ}{σ:St}{H:Hp}{s:Shared}{a:Addr}{ps:List Int}(I:Inv X aa σ H s)(d:Tp H a ps):Reads s.heap (.ref a) (.tuple (ps.map A5)) []:=by
 obtain⟨e,r,p,_⟩:=I.tuple (SqT.of d);obtain⟨o,c,hc,n,hd⟩:=id p;exact .tuple c hc hd ((PySem.W.ke_carried (intsAre_of r)).reads s.heap)
def EE{aa:Ψ}{σ:St}{H:Hp}{s:Shared}(I:Inv X aa σ H s):∀{as:List Addr}{pss:Ξ},Tps H as pss->ReadsAll s.heap (as.map Value.ref) (pss.map fun ps=>PyData.tuple (ps.map A5)) []:=by
 intro as pss h
 induction h with
 |nil=>exact .nil
 |cons r t ih=>exact .cons (as:=[]) (bs:=[]) (kR I r) ih
def nt{aa:Ψ}{σ:St}{H:Hp}{s:Shared}{l:Addr}{as:List Addr}{pss:Ξ}(I:Inv X aa σ H s)(c:SqL X.K H l (as.map V.ref))(h:Tps H as pss):Reads s.heap (.ref l) (.list (pss.map fun ps=>PyData.tuple (ps.map A5))) [l]:=by
 obtain⟨d,r,p,_⟩:=I.list c;obtain rfl:=bw r;obtain⟨o,a,hc,n,hd⟩:=p.isList;exact .list a hc hd (by simpa using EE I h)
def xW(ps:List Int):PyData.canLay0 (.tuple (ps.map A5))=true:=by simp[PyData.canLay0,PySem.W.ke_canLayAll0]
def xX(ps:List Int):PyData.depth (.tuple (ps.map A5))=1:=by simp[PyData.depth,PySem.W.ke_depthAll]
def nu(ps:List Int):SeqAt.shaped (.tuple (ps.map A5))=true:=by
 simp[SeqAt.shaped,xW,xX]
def xY:∀pss:Ξ,PyData.canLayAll0 (pss.map fun ps=>PyData.tuple (ps.map A5))=true
 |[]=>rfl
 |ps::r=>by rw[AT,PyData.canLayAll0,xW,xY r];rfl
def xZ:∀pss:Ξ,PyData.depthAll (pss.map fun ps=>PyData.tuple (ps.map A5))<=1
 |[]=>AW _
 |ps::r=>by rw[AT,PyData.depthAll,xX];exact Nat.max_le.mpr ⟨Ag _,xZ r⟩
def ny(pss:Ξ):SeqAt.shaped (.list (pss.map fun ps=>PyData.tuple (ps.map A5)))=true:=by
 have:=xZ pss;have e:PyData.depth (.list (pss.map fun ps=>PyData.tuple (ps.map A5)))<=64:=by rw[PyData.depth];omega
 unfold SeqAt.shaped;rw[decide_eq_true e,PyData.canLay0,xY]
 rfl
def sh:∀pss c:Ξ,sameAll (pss.map fun ps=>PyData.tuple (ps.map A5)) (c.map fun ps=>PyData.tuple (ps.map A5))=decide (pss=c)
 |[],[]=>by simp[sameAll]
 |[],_::_=>by simp[sameAll]
 |_::_,[]=>by simp[sameAll]
 |a::r,b::t=>by
  simp only[AT,sameAll,same,PySem.W.ke_sameAll,sh r t]
  by_cases h:a=b<;>by_cases h':r=t<;>simp[h,h']
def nC(ps:List Int):(Shape.tuples .int).has (.tuple (ps.map A5))=true:=by simp[Shape.has]
def nE(pss:Ξ):(Shape.list (.tuples .int)).has (.list (pss.map fun ps=>PyData.tuple (ps.map A5)))=true:=by simp[Shape.has]
def gE(neg:Bool)(K:Ae):R2:=fun x y H Q=>(∃a b ps c,x=.ref a/\y=.ref b/\Tp H a ps/\Tp H b c/\Q (.bl (if neg then !decide (ps=c) else decide (ps=c))) H) \/
 (∃l m as bs pss d,x=.ref l/\y=.ref m/\SqL K H l (as.map V.ref)/\Tps H as pss/\SqL K H m (bs.map V.ref)/\Tps H bs d/\Q (.bl (if neg then !decide (pss=d) else decide (pss=d))) H)
def x0(hu:X.A.units+64<cLine):bZ X (compareOp .Eq) (gE false X.K):=by
 intro aa s σ H x y v u Q I e f h;rcases h with ⟨a,b,ps,c,rfl,rfl,g,hb,q⟩|⟨l,m,as,bs,pss,d,rfl,rfl,i,hp,hm,hq,q⟩
 ·cases e
  cases f;refine eq_dataH_same (kR I g) (kR I hb) (nu _) (nu _) hu (SeqAt.noMix_of_shape (.tuples .int) rfl _ _ (nC _) (nC _)) ?_;rw[show same (.tuple (ps.map A5)) (.tuple (c.map A5))=decide (ps=c) from by simp only[same];exact PySem.W.ke_sameAll ps c];exact⟨.bl _,H,I,rfl,q⟩
 ·cases e
  cases f;refine eq_dataH_same (nt I i hp) (nt I hm hq) (ny _) (ny _) hu (SeqAt.noMix_of_shape (.list (.tuples .int)) rfl _ _ (nE _) (nE _)) ?_;rw[show same (.list (pss.map fun ps=>PyData.tuple (ps.map A5))) (.list (d.map fun ps=>PyData.tuple (ps.map A5)))=decide (pss=d) from by simp only[same];exact sh pss d];exact⟨.bl _,H,I,rfl,q⟩
def x5(hu:X.A.units+64<cLine):bZ X (compareOp .NotEq) (gE true X.K):=by
 intro aa s σ H x y v u Q I e f h;rcases h with ⟨a,b,ps,c,rfl,rfl,g,hb,q⟩|⟨l,m,as,bs,pss,d,rfl,rfl,i,hp,hm,hq,q⟩
 ·cases e
  cases f;refine ne_dataH_same (kR I g) (kR I hb) (nu _) (nu _) hu (SeqAt.noMix_of_shape (.tuples .int) rfl _ _ (nC _) (nC _)) ?_;rw[show same (.tuple (ps.map A5)) (.tuple (c.map A5))=decide (ps=c) from by simp only[same];exact PySem.W.ke_sameAll ps c];exact⟨.bl _,H,I,rfl,q⟩
 ·cases e
  cases f;refine ne_dataH_same (nt I i hp) (nt I hm hq) (ny _) (ny _) hu (SeqAt.noMix_of_shape (.list (.tuples .int)) rfl _ _ (nE _) (nE _)) ?_;rw[show same (.list (pss.map fun ps=>PyData.tuple (ps.map A5))) (.list (d.map fun ps=>PyData.tuple (ps.map A5)))=decide (pss=d) from by simp only[same];exact sh pss d];exact⟨.bl _,H,I,rfl,q⟩
def zla:V->List V->Hp->VK->Prop:=fun x vs H Q=>∃l xs i y,x=.ref l/\vs=[.int i,y]/\H l=some (.lst xs)/\0<=i/\i<=xs.length/\xs.length<sizeLine/\Q .non (upd H l (.lst (xs.take i.toNat++y::xs.drop i.toNat)))
def sj:jp X "list.insert" zla:=by
 intro aa s σ H x vs v us Q I f g h;obtain⟨l,xs,i,y,rfl,rfl,c,p,hi,w,q⟩:=h;cases f;obtain⟨u,d,rfl,j,o⟩:=g.two;obtain⟨t,rfl⟩:=j;obtain⟨z,a,n,r,A,e⟩:=I.lstM c;have C:sizeLine<2 ^ 62:=by rw[sizeLine_eq];decide
 have hf:Builtin.List.listFitsIndex i=true:=by
  unfold Builtin.List.listFitsIndex;simp only[AE,decide_eq_true_eq];constructor<;>omega
 refine call_meets F.slot_list_insert ⟨_,e,rfl⟩ F.entry_list_insert (F.args_list_insert_3 _ _ _) (PySem.AutoSeq1.list_insert_list_int_val_1 l a.toArray n i t d (by simp[hf]) (by rw[Am];omega)) ⟨e,?_⟩;refine⟨.non,_,I.lset (its':=a.take i.toNat++d::a.drop i.toNat) (t':=s.toks) c e ?_ ((r.take _).append (.cons o (r.drop _))) ?_,rfl,q⟩
 ·have hk:(if i<0 then(i+(a.toArray.size:Int)).toNat else min i.toNat a.toArray.size)=i.toNat:=by
   rw[if_neg ω,Am];omega
  dsimp only;rw[hk];simp;exact At (by rw[List.length_drop];exact Ag _)
 ·rw[Aq,Ap,AI,List.length_drop]
  omega
def sk:dg X (.type "int") (fun xs H Q=>∃x n,xs=[.str x]/\PySem.intText? x=some n/\x.length<=640/\Q (.int n) H):=by
 intro aa s σ H xs us Q I r h;obtain⟨x,n,rfl,a,c,q⟩:=h;obtain⟨u,rfl,t,rfl⟩:=vals1 r;exact PySem.W.KIN.call_text a c ⟨.int n,H,I.tok _,⟨_,rfl⟩,q⟩
end
section
variable{X:Cx}{aa:Ψ}{σ:St}{H:Hp}{s:Shared}
def x6{A:Around}(h:A.units+64<cLine):A.in1.in1.units<cLine:=by show A.units+1+1<cLine;omega
def in1_units{A:Around}(h:A.units+64<cLine):A.in1.units<cLine:=by show A.units+1<cLine;omega
def EF:dg X (.builtin "sorted") (fun xs H Q=>∃(l:Addr)(ns:List Int),xs=[.ref l]/\SqL X.K H l (ns.map V.int)/\ns.length<1000/\∀(D:Addr)(g:List Int),g.Perm ns->g.Pairwise (·<=·)->H D=none->Q (.ref D) (upd H D (.lst (g.map V.int)))):=by
 intro aa s σ H xs us Q I r h;obtain⟨l,ns,rfl,hq,C,q⟩:=h;obtain⟨u,rfl,y⟩:=vals1 r;cases y;obtain⟨f,j,p1,o⟩:=I.list hq;have hi:IntsAre f ns:=intsAre_of j;have a:=j.length;rw[Ab] at a o;refine bu.xL (ls:=ns.map fun n=>[n]) (good:=fun _=>True) p1.isList (bu.xF hi) (fun _ _=>trivial) ω ω fun out c=>?_;obtain⟨ps,hp,c,hs⟩:=c;have all:∀p∈ps,∃n t,p.1=[n]/\p.2=Value.int n t:=fun p x=>by
  obtain⟨i,e⟩:=List.mem_iff_getElem?.mp (hp.mem_iff.mp x);rw[bu.bK,Ar] at e;cases e1:ns[i]? with
  |none=>rw[e1] at e;simp at e
  |some n=>
   obtain⟨t,e2⟩:=hi.get i n e1;rw[e1,e2] at e;simp only[Option.map_some,Option.bind_some,Option.some.injEq] at e;subst e;exact⟨n,t,rfl,rfl⟩
 have z:∀ps:List (List Int×Value),(∀p∈ps,∃n t,p.1=[n]/\p.2=Value.int n t)->Vals ((ps.map fun p=>p.1.headD 0).map V.int) (ps.map (·.2)):=by
  intro ps
  induction ps with
  |nil=>intro _;exact .nil
  |cons p ps ih=>
   intro h;obtain⟨n,t,e1,e2⟩:=h p Aj;refine .cons ?_ (ih fun q hq=>h q (An _ hq));show RelV (V.int (p.1.headD 0)) p.2;rw[e1,e2];exact⟨t,rfl⟩
 have v:(ps.map fun p=>p.1.headD 0).Perm ns:=by
  have h1:=hp.map (fun p:List Int×Value=>p.1.headD 0);have e:((ns.map fun n=>[n]).zip f).map (fun p:List Int×Value=>p.1.headD 0)=ns:=by
   rw[show(fun p:List Int×Value=>p.1.headD 0)=(fun l:List Int=>l.headD 0) ∘ Prod.fst from rfl,<-AK,List.map_fst_zip (by rw[Ab];omega),AK];exact List.map_id' ns
  rw[e] at h1;exact h1
 have A:(ps.map fun p=>p.1.headD 0).Pairwise (·<=·):=by
  rw[List.pairwise_map];refine hs.imp_of_mem fun{p q} h1 h2 d=>?_;obtain⟨n,t,e1,_⟩:=all p h1;obtain⟨m,t',e2,_⟩:=all q h2;rw[e1,e2,HT.zN] at d;rw[e1,e2];show n<=m
  by_cases e:m=n
  ·omega
  ·rw[if_neg e] at d
   have:=of_decide_eq_false d;omega
 obtain⟨e,he⟩:=sortedAll_at s.heap f out;refine⟨.ref (s⁻¹+1),_,I.laid (t':=s.toks) (fun _ _=>sortedAll_old) (Nat.le_succ _) (show zQ X.prog X.w _ _ _ (.lst ((ps.map fun p=>p.1.headD 0).map V.int)) from⟨?_,out.toList,e,?_,?_⟩),rfl,q _ _ v A (I.hok.fresh (Nat.le_succ _))⟩
 ·rw[Ab,v.length_eq];exact o
 ·rw[c];exact z ps all
 ·simpa using he
def kT(H:Hp)(p:Addr)(l:List Int):Prop:=∃n b ps,l=n::ps/\H p=some (.tup [.int n,.ref b])/\Tp H b ps
def x8{p:Addr}{l:List Int}(I:Inv X aa σ H s)(h:kT H p l):bu.IsPr s.heap (.ref p) l:=by
 obtain⟨n,b,ps,rfl,h1,h2⟩:=h;obtain⟨f,a,p1,_⟩:=I.tuple (SqT.of (K:=X.K) h1);obtain⟨u,g,rfl,⟨t,rfl⟩,c⟩:=vals2 a;cases c;obtain⟨d,e,p2,_⟩:=I.tuple (SqT.of (K:=X.K) h2);exact⟨p,b,n,t,d,ps,rfl,rfl,p1,p2,intsAre_of e⟩
def EG{h h':Heap}{u:Value}{l:List Int}(k:∀b o,h.get? b=some o->h'.get? b=some o)(x:bu.IsPr h u l):bu.IsPr h' u l:=by
 obtain⟨a,b,n,t,c,ps,e1,e2,⟨o,d,hc⟩,⟨o',e,f⟩,i⟩:=x;exact⟨a,b,n,t,c,ps,e1,e2,⟨o,k _ _ d,hc⟩,⟨o',k _ _ e,f⟩,i⟩
def kX{a c:Type}{R:a->c->Prop}{l:List a}{m:List c}(p:Paired R l m):∀(i:Nat) x y,l[i]?=some x->m[i]?=some y->R x y:=by
 induction p with
 |nil=>intro i x y h;simp at h
 |cons r t ih=>
  intro i x y h1 h2;cases i with
  |zero=>simp at h1 h2;subst h1 h2;exact r
  |succ i=>exact ih i x y (by simpa using h1) (by simpa using h2)
def addrOf:Value->Addr
 |.ref a=>a
 |_=>0
def EH(hu:X.A.units+64<cLine):dg X (.builtin "sorted") (fun xs H Q=>∃(l:Addr)(as:List Addr)(ls:Ξ),xs=[.ref l]/\SqL X.K H l (as.map V.ref)/\Paired (kT H) as ls/\ls.length<1000/\
  ∀(D:Addr)(j:List (List Int×Addr)),j.Perm (ls.zip as)->j.Pairwise (fun a b=>HT.lexLt b.1 a.1=false)->H D=none->Q (.ref D) (upd H D (.lst (j.map fun q=>V.ref q.2)))):=by
 intro aa s σ H xs us Q I r h;obtain⟨l,as,ls,rfl,hq,hp,F,q⟩:=h;obtain⟨u,rfl,z⟩:=vals1 r;cases z;obtain⟨G,v,p1,x⟩:=I.list hq;have d:=v.length;obtain rfl:=bw v;rw[Ab] at d x;have C:=Paired.length hp;have E:∀h:Heap,(∀b o,s.heap.get? b=some o->h.get? b=some o)->∀(i:Nat) u l,(as.map Value.ref)[i]?=some u->ls[i]?=some l->bu.IsPr h u l:=fun h hk i u l h1 h2=>by
  rw[Ar] at h1;cases e:as[i]? with
  |none=>rw[e] at h1;simp at h1
  |some a=>
   rw[e] at h1;obtain rfl:=As h1;exact EG hk (x8 I (kX hp i a l e h2))
 refine bu.xL (ls:=ls) (good:=fun h=>∀b o,s.heap.get? b=some o->h.get? b=some o) p1.isList (bu.xH (by rw[Ab];exact C) (x6 hu) ⟨s.heap,fun _ _ e=>e⟩ E) (fun h' hk=>hk) (by rw[Ab];exact x) (by rw[Ab];omega) fun out f=>?_;obtain⟨ps,c,f,hs⟩:=f;have all:∀p∈ps,p.2=Value.ref (addrOf p.2):=fun p g=>by
  have:=(List.of_mem_zip (c.mem_iff.mp g:(p.1,p.2)∈ls.zip (as.map Value.ref))).2;obtain⟨a,_,e⟩:=List.mem_map.mp this;rw[<-e];rfl
 have y:(ps.map fun p=>(p.1,addrOf p.2)).Perm (ls.zip as):=by
  have h1:=c.map (fun p:List Int×Value=>(p.1,addrOf p.2));have e:(ls.zip (as.map Value.ref)).map (fun p:List Int×Value=>(p.1,addrOf p.2))=ls.zip as:=by
   rw[List.zip_map_right,AK];exact(List.map_congr_left fun p _=>rfl).trans (List.map_id' _)
  rw[e] at h1;exact h1
 obtain⟨e,he⟩:=sortedAll_at s.heap (as.map Value.ref) out;have ex:out.toList=((ps.map fun p=>(p.1,addrOf p.2)).map fun q=>Value.ref q.2):=by
  rw[f,AK];exact List.map_congr_left fun p g=>all p g
 refine⟨.ref (s⁻¹+1),_,I.laid (t':=s.toks) (fun _ _=>sortedAll_old) (Nat.le_succ _) (show zQ X.prog X.w _ _ _ (.lst ((ps.map fun p=>(p.1,addrOf p.2)).map fun q=>V.ref q.2)) from⟨?_,out.toList,e,?_,?_⟩),rfl,q _ _ y ?_ (I.hok.fresh (Nat.le_succ _))⟩
 ·rw[Ab,y.length_eq,List.length_zip];omega
 ·rw[ex]
  exact rP (fun q:List Int×Addr=>q.2) _
 ·simpa using he
 ·rw[List.pairwise_map];exact hs
def nI:Sp:=fun vs H Q _=>∃a ps,vs=[.ref a]/\Tp H a ps/\∀p,H p=none->Q (.ref p) (upd H p (.tup [.int ps.length,.ref a]))
def x9{b:Addr}(h:bD X aa H b):∀c∈[b],bD X aa H c:=fun c hc=>by rw[List.mem_singleton.mp hc];exact h
def kZ{H':Hp}{b:Addr}(f:bD X aa H b)(a:H' b=none):bD X aa H' b:=⟨a,f.2⟩
def x_{b:Addr}(I:Inv X aa σ H s)(f:bD X aa H b):b∉frs X.stack:=fun hb=>by
 rcases List.mem_cons.mp (I.stkSub b hb) with e|e
 ·exact f.2.1 e
 ·exact f.2.2.1 e
def EI{k:Nat}{f l:Addr}{fd:FuncData}{as:List Addr}{pss:Ξ}{x:Str}{Q:Ω}(F:FnOk X.prog X.w X.K X.mg X.base aT k f fd [x] nI)(hr:Room (k+2) X.A)(hb:Binds X.K fd [x] [])(I:Inv X aa σ H s)(hl:SqL X.K H l (as.map V.ref))(ht:Tps H as pss)(b_:pss.length<1000)(h:∀D H'(C:List (List Int×Addr)) s',Inv X aa σ H' s'->Same H H'->H D=none->H' D=some (.lst (C.map fun q=>V.ref q.2))->C.Perm (pss.zip as)->
   C.Pairwise (fun a b=>HT.lexLt ((b.1.length:Int)::b.1) ((a.1.length:Int)::a.1)=false)->Q (.ref D) s'):
  wpAny (model X.prog X.w) X.A (call (.builtin "sorted") [.ref l] [(Str.ofString "key",.ref f)]) Q X.xe s:=by
 have hu:X.A.units+64<cLine:=hr.units;obtain⟨ag,r1,p1,hz⟩:=I.list hl;have hlen:=r1.length;obtain rfl:=bw r1;have aQ:=ht.length;rw[Ab] at hlen hz;have P:(as.map Value.ref).length<=sizeLine:=by rw[Ab];exact hz
 generalize hvs:as.map Value.ref=vs at p1 P;have nD:vs.length=as.length:=by rw[<-hvs,Ab]
 refine call_function_entry_kw kind_sorted plain_sorted entry_sorted (ksk_s1 _ _) ?_;unfold Builtin.«sorted»;refine Aa (m:=checkCount "sorted" 1 1 _) (Ad ?_);refine Aa (collect_list p1.isList ?_ P);refine Aa (wpAny_newList ?_ P);have hsz:((s.heap.push (seqObj "list" #[] 0)).update s⁻¹ (AJ (·++vs.toArray))).objs.size=s⁻¹+1:=by
  rw[AO,size_push']
 have g:(((s.heap.push (seqObj "list" #[] 0)).update s⁻¹ (AJ (·++vs.toArray))).push (seqObj "list" vs.toArray 0)).get? (s⁻¹+1)=some (seqObj "list" vs.toArray 0):=by
  rw[<-hsz];exact Av _ rfl
 have keep:∀b o,s.heap.get? b=some o->(((s.heap.push (seqObj "list" #[] 0)).update s⁻¹ (AJ (·++vs.toArray))).push (seqObj "list" vs.toArray 0)).get? b=some o:=fun b o q=>by
  have L:b<s⁻¹:=Ah q;rw[Heap.get?_push_ne _ _ _ (by rw[hsz];exact Al (AF L)),Heap.get?_update_ne _ _ _ _ (Al L),Heap.get?_push_ne _ _ _ (Al L)];exact q
 show wpAny _ _ _ _ _ {s with heap:=((s.heap.push (seqObj "list" #[] 0)).update s⁻¹ (AJ (·++vs.toArray))).push (seqObj "list" vs.toArray 0)};rw[hsz];generalize hA:((s.heap.push (seqObj "list" #[] 0)).update s⁻¹ (AJ (·++vs.toArray))).push (seqObj "list" vs.toArray 0)=d at g keep ⊢;have I1:Inv X aa σ H {s with heap:=d}:=I.kept (t':=s.toks) keep;have S:bD X aa H (s⁻¹+1):=I.fpOk (Nat.le_succ _) (I.hok.fresh (Nat.le_succ _));generalize hD:s⁻¹+1=D at g S ⊢;have qJ:D<d.objs.size:=Ah g;refine Aa (A0 (wpAny_call_entry_kw slot_list_sort ⟨_,g,rfl⟩ entry_list_sort ?body (ksk_l1 _ _)))
 case body=>
  show wpAny (model X.prog X.w) X.A.in1.in1 (Builtin.«list.sort» ⟨[.ref D],[(Str.ofString "key",.ref f)]⟩) _ _ _;rw[ksk_t1];unfold ksk_tree;refine Aa (listItems_at g rfl ?_);refine Aa (listUpdate_at g rfl ?_ (by rw[Am];exact P) (AW _));obtain⟨e1,dm⟩:∃e1,(d.update D (AJ fun _=>(#[]:Array Value))).get? D=some (seqObj "list" #[] e1):=⟨_,get?_update_seq g fun _=>#[]⟩;refine Aa (seqEpoch_at dm rfl ?_);refine Aa (wpAny_newTuple ?_ (by show vs.length<=_;exact P));refine Aa (wpAny_newList ?_ (AW _));refine A0 ?_;have I2:Inv X aa σ H {s with heap:=d.update D (AJ fun _=>(#[]:Array Value))}:=
   Inv.turneds (s:={s with heap:=d}) (t':=s.toks) (ch:=[D]) I1 (x9 S) fun b o hb q=>by rw[Heap.get?_update_ne _ _ _ _ (fun z=>hb (by simp[z]))];exact q
  have I3:Inv X aa σ H {s with heap:=((d.update D (AJ fun _=>(#[]:Array Value))).push (seqObj "tuple" vs.toArray 0))}:=I2.kept (t':=s.toks) fun b u q=>Ac _ q;have jY:bD X aa H ((d.update D (AJ fun _=>(#[]:Array Value))).push (seqObj "tuple" vs.toArray 0)).objs.size:=I3.fpOk (Ag _) (I3.hok.fresh (Ag _));have n6:((d.update D (AJ fun _=>(#[]:Array Value))).push (seqObj "tuple" vs.toArray 0)).objs.size≠D:=by
   rw[size_push',AO];omega
  have I4:Inv X aa σ H {s with heap:=(((d.update D (AJ fun _=>(#[]:Array Value))).push (seqObj "tuple" vs.toArray 0)).push (seqObj "list" #[] 0))}:=I3.kept (t':=s.toks) fun b u q=>Ac _ q;have lw:(((d.update D (AJ fun _=>(#[]:Array Value))).push (seqObj "tuple" vs.toArray 0)).push (seqObj "list" #[] 0)).get? ((d.update D (AJ fun _=>(#[]:Array Value))).push (seqObj "tuple" vs.toArray 0)).objs.size=some (seqObj "list" #[] 0):=Av _ rfl;have bF:(((d.update D (AJ fun _=>(#[]:Array Value))).push (seqObj "tuple" vs.toArray 0)).push (seqObj "list" #[] 0)).get? D=some (seqObj "list" #[] e1):=Ac _ (Ac _ dm);show wpAny (model X.prog X.w) X.A.in1.in1 (ksk_rest D (.ref f) false vs.toArray e1 (.ref ((d.update D (AJ fun _=>(#[]:Array Value))).push (seqObj "tuple" vs.toArray 0)).objs.size)) _ _ {s with heap:=((d.update D (AJ fun _=>(#[]:Array Value))).push (seqObj "tuple" vs.toArray 0)).push (seqObj "list" #[] 0)};generalize ((d.update D (AJ fun _=>(#[]:Array Value))).push (seqObj "tuple" vs.toArray 0)).objs.size=kS at *;generalize ((d.update D (AJ fun _=>(#[]:Array Value))).push (seqObj "tuple" vs.toArray 0)).push (seqObj "list" #[] 0)=mB at *;unfold ksk_rest;refine Aa (wpAny_rule ?_)
  first
   |rw[List.forIn_toArray]
   |(rw[<-Array.forIn_toList];simp only[List.toList_toArray])
  refine Aa (ksk_fold (fun i s'=>∃y E e ks,Inv X aa σ y s'/\Same H y/\y D=none/\y kS=none/\s'.heap.get? kS=some (seqObj "list" E e)/\s'.heap.get? D=some (seqObj "list" #[] e1)/\E.toList=ks.map Value.ref/\ks.length=i/\
    ∀(j:Nat) p,ks[j]?=some p->∃a ps,as[j]?=some a/\pss[j]?=some ps/\y p=some (.tup [.int ps.length,.ref a])) vs 0 _
   ⟨H,#[],0,[],I4,Same.refl H,S.1,jY.1,lw,bF,rfl,rfl,fun j p e=>by simp at e⟩ ?step ?done)
  case step=>
   rintro j v s' hv ⟨y,E,e,ks,Ik,N,O,T,U,na,kt,J,fv⟩;simp only[Bl] at J ⊢;have si:j<as.length:=by rw[<-nD];exact(List.getElem?_eq_some_iff.mp hv).1
   have Z:as[j]?=some as[j]:=Ao si;obtain⟨ps,cn,cS⟩:=ht.get Z;have ev:v=.ref as[j]:=by
    rw[<-hvs,Ar,Z] at hv;exact(As hv).symm
   subst ev;refine Aa (wpAny_attempt (wpAny_call (codeAny_mono (F.run X.A.in1.in1 X.stack s' y ⟨[.ref as[j]],[]⟩ [.ref as[j]] [.ref as[j]] (fun v H'=>∃p,v=.ref p/\y p=none/\H'=upd y p (.tup [.int ps.length,.ref as[j]])) E0
    (Room.in1 (Room.in1 hr)) Ik.env0.in1.in1 (hb s' [.ref as[j]] Ik.kIn rfl) (.cons rfl .nil) ⟨as[j],ps,rfl,N.tp cS,fun p hp=>⟨p,rfl,hp,rfl⟩⟩) fun r M hq=>?_)))
   cases r with
   |error e=>exact False.elim hq
   |ok fl=>
    cases fl with
    |next=>exact False.elim hq
    |brk=>exact False.elim hq
    |cont=>exact False.elim hq
    |ret u=>
     obtain⟨v,H',os,W,un,hok,ru,p,rfl,hp,rfl⟩:=hq;cases ru;have I5:Inv X aa σ (upd y p (.tup [.int ps.length,.ref as[j]])) M:=Ik.call' os un hok W (fun b z=>nomatch z);have fD:=kZ S O;have fK:=kZ jY T;have sP:=un.keep D _ na O (x_ Ik fD) (by simp);have pc:=un.keep kS _ U T (x_ Ik fK) (by simp);have dM:=un.free D _ na O (by simp);have oV:=un.free kS _ U T (by simp)
     try dsimp only
     have hkz:E.size=j:=by rw[<-Af,kt,Ab,J]
     obtain⟨c2,di⟩:∃c2,(M.heap.update kS (AJ (·.push (.ref p)))).get? kS=some (seqObj "list" (E.push (.ref p)) c2):=⟨_,get?_update_seq pc (·.push (.ref p))⟩;have s1:=A6 M.heap kS (AJ (·.push (.ref p)));have tV:=kZ jY oV;have I6:Inv X aa σ (upd y p (.tup [.int ps.length,.ref as[j]])) {M with heap:=M.heap.update kS (AJ (·.push (.ref p)))}:=
      I5.turneds (t':=M.toks) (ch:=[kS]) (x9 tV) fun b o hb q=>(s1.2 b (fun z=>hb (by simp[z]))).trans q
     refine Aa (listUpdate_at pc rfl ?_ ω (AA (Nat.le_of_eq (Array.size_push ..)) ω));refine Ad ⟨rfl,_,E.push (.ref p),c2,ks++[p],I6,N.then (by exact N.free hp),dM,oV,di,(s1.2 D n6.symm).trans sP,by rw[Array.toList_push,kt,Au];rfl,by rw[Aq,J];rfl,fun i p' G=>?_⟩
     by_cases hi:i<ks.length
     ·rw[List.getElem?_append_left hi] at G
      obtain⟨a,fX,x1,x2,x3⟩:=fv i p' G;exact⟨a,fX,x1,x2,by rw[zi (zj x3 hp)];exact x3⟩
     ·rw[List.getElem?_append_right ω] at G
      have h0:i-ks.length=0:=by
       rcases Nat.eq_zero_or_pos (i-ks.length) with z|z
       ·exact z
       ·rw[List.getElem?_eq_none (by simp only[Ap,List.length_nil];omega)] at G;cases G
      rw[h0] at G;obtain rfl:p=p':=by simpa using G
      have hij:i=j:=ω
      subst hij;exact⟨_,ps,Z,cn,am⟩
  case done=>
   rintro s' ⟨y,E,e,ks,Ik,N,O,T,U,na,kt,J,fv⟩;simp only[Bl] at J
   try dsimp only
   refine Aa (listItems_at U rfl ?_);unfold ksk_end
   try dsimp only
   simp only[Ai,if_false];have rS:E=(ks.map Value.ref).toArray:=by rw[<-kt,Array.toArray_toList]
   subst rS;have nA:∀(i:Nat) u l,(ks.map Value.ref)[i]?=some u->(pss.map fun ps=>(ps.length:Int)::ps)[i]?=some l->bu.IsPr s'.heap u l:=fun i u l h1 h2=>by
    rw[Ar] at h1 h2;cases ek:ks[i]? with
    |none=>rw[ek] at h1;simp at h1
    |some p=>
     obtain⟨a,ps,x1,x2,x3⟩:=fv i p ek;rw[ek] at h1;rw[x2] at h2;obtain rfl:=As h1;obtain rfl:=As h2;obtain⟨fX,y1,y2⟩:=ht.get x1;rw[x2] at y1;obtain rfl:=As y1;exact x8 Ik ⟨_,a,ps,rfl,x3,N.tp y2⟩
   refine bu.xI (us:=ks.map Value.ref) (vs:=vs) (ls:=pss.map fun ps=>(ps.length:Int)::ps) (good:=fun h=>h=s'.heap) (bu.xH (by rw[Ab,Ab,J,nD];exact aQ) (x6 hu) ⟨_,rfl⟩ (by rintro h rfl;exact nA)) (by rw[Ab,J]) ω rfl fun af ho hst hf=>?_;refine bu.Eh (ls:=pss.map fun ps=>(ps.length:Int)::ps) (vs:=vs) U na n6 (by rw[Am,Ab];omega) ho hst P hf fun h' out c kk sK vO lQ pT=>⟨_,rfl,?_⟩;refine Ad ⟨_,rfl,?_⟩;obtain⟨ps,Y,cq,hs⟩:=lQ;subst hvs;have I7:Inv X aa σ y {s' with heap:=h'}:=Ik.turneds (t':=s'.toks) (ch:=[kS,D]) (fun b hb=>by
     simp only[List.mem_cons,List.not_mem_nil,or_false] at hb;rcases hb with rfl|rfl
     ·exact kZ jY T
     ·exact kZ S O) fun b o hb q=>kk b o (fun z=>hb (by simp[z])) (fun z=>hb (by simp[z])) q
   have all:∀p∈ps,∃a C,p.2=Value.ref a/\p.1=((C:List Int).length:Int)::C:=fun p bz=>by
    obtain⟨h1,h2⟩:=List.of_mem_zip (Y.mem_iff.mp bz:(p.1,p.2)∈_);obtain⟨a,_,Z⟩:=List.mem_map.mp h2;obtain⟨C,_,eq⟩:=List.mem_map.mp h1;exact⟨a,C,Z.symm,eq.symm⟩
   have pm:(ps.map fun p=>(p.1.tail,addrOf p.2)).Perm (pss.zip as):=by
    have h1:=Y.map (fun p:List Int×Value=>(p.1.tail,addrOf p.2));have e:((pss.map fun ps=>(ps.length:Int)::ps).zip (as.map Value.ref)).map (fun p:List Int×Value=>(p.1.tail,addrOf p.2))=pss.zip as:=by
     rw[List.zip_map,AK];exact(List.map_congr_left fun p _=>rfl).trans (List.map_id' _)
    rw[e] at h1;exact h1
   have ex:out.toList=((ps.map fun p=>(p.1.tail,addrOf p.2)).map fun q=>Value.ref q.2):=by
    rw[cq,AK];refine List.map_congr_left fun p bz=>?_;obtain⟨a,C,e1,_⟩:=all p bz;show p.2=Value.ref (addrOf p.2);rw[e1];rfl
   have vv:Vals ((ps.map fun p=>(p.1.tail,addrOf p.2)).map fun q=>V.ref q.2) out.toList:=by
    rw[ex];exact rP (fun q:List Int×Addr=>q.2) _
   obtain⟨f0,f1,f2,f3,f4,f5⟩:=S;have qP:X.s₀⁻¹<=D:=by rw[<-hD];exact AA I.sz (Nat.le_succ _)
   have I8:Inv X aa σ (upd y D (.lst ((ps.map fun p=>(p.1.tail,addrOf p.2)).map fun q=>V.ref q.2))) {s' with heap:=h'}:=by
    refine I7.adopt O qP f1 f4 f5 ⟨?_,out.toList,c,vv,?_⟩
    ·rw[Ab,pm.length_eq,List.length_zip];omega
    ·simpa using sK
   refine h D _ _ _ I8 (N.then f0) f0 am pm ?_;rw[List.pairwise_map];refine hs.imp_of_mem fun{p q} h1 h2 h3=>?_;obtain⟨_,C,_,e1⟩:=all p h1;obtain⟨_,vT,_,e2⟩:=all q h2;rw[e1,e2] at h3;rw[e1,e2];exact h3
end
section
variable{X:Cx}{a:Expr}{ta:TA}{p p2 pos iO:Pos}{k:Nat}{f:Addr}{fd:FuncData}{x y:Str}
def EJ(K:Ae)(ta:TA):TE:=fun σ H Q=>ta σ H fun vs H1=>∃(l:Addr)(as:List Addr)(pss:Ξ),vs=[.ref l]/\SqL K H1 l (as.map V.ref)/\Tps H1 as pss/\pss.length<1000/\
 ∀D H2(c:List (List Int×Addr)),Same H1 H2->H1 D=none->H2 D=some (.lst (c.map fun q=>V.ref q.2))->c.Perm (pss.zip as)->c.Pairwise (fun a b=>HT.lexLt ((b.1.length:Int)::b.1) ((a.1.length:Int)::a.1)=false)->Q (.ref D) H2
def EK(F:FnOk X.prog X.w X.K X.mg X.base aT k f fd [x] nI)(hr:Room (k+2) X.A)(hb:Binds X.K fd [x] [])(C:Gl X "sorted")(hm:X.mg "sorted"=none)(E:Bh "sorted"=some (.builtin "sorted"))(G:Gl X y)(J:X.mg y=some (.ref f))(L:PA X [a] ta)(M:(y==("__debug__":Str))=false:=by decide)(he:starEach [a] X.env=[(false,eval a X.env)]:=by rfl):PE X (.Call (.Name "sorted" p) [a] [⟨some "key",.Name y p2,iO⟩] pos) (EJ X.K ta):=by
 intro aa s σ H Q I h;refine wpAny_Call_Name_kw (jg I C hm E ?_);refine callWith_kw ?_ (by rw[he];rfl) (by rw[he];rfl) rfl rfl;refine bd (L pos aa s σ H _ I h) fun us d ⟨vs,H1,c,e,q1⟩=>?_;obtain⟨l,as,pss,rfl,r,ht,v,q⟩:=q1;obtain⟨u,rfl,z⟩:=vals1 e;cases z;refine kws_cons (j6 c G J (kws_nil ?_) M);show wpAny (model X.prog X.w) X.A (call (.builtin "sorted") [.ref l] [(Str.ofString "key",.ref f)]) _ _ d;exact EI F hr hb c r ht v fun D H' g s' N i j o hp hs=>⟨.ref D,H',N,rfl,q D H' g i j o hp hs⟩
end
end L2
end
section
namespace STb
open PySem PySem.SetTable
def Ris(xs:Array Nat):Prop:=∀(i j a b:Nat),xs[i]?=some a->xs[j]?=some b->i<j->a<b
def Ris.inj{xs:Array Nat}(h:Ris xs){i j a:Nat}(h1:xs[i]?=some a)(h2:xs[j]?=some a):i=j:=by
 rcases Nat.lt_trichotomy i j with q|q|q
 ·exact absurd (h i j a a h1 h2 q) (Nat.lt_irrefl _)
 ·exact q
 ·exact absurd (h j i a a h2 h1 q) (Nat.lt_irrefl _)
def su{xs:Array Nat}{j:Nat}(hr:Ris xs):∀(fuel lo hi:Nat),hi-lo<=fuel->lo<=hi->hi<=xs.size->(∀i a,xs[i]?=some a->i<lo->a<j)->(∀i a,xs[i]?=some a->hi<=i->j<=a)->
  below.go xs j fuel lo hi<=xs.size/\(∀i a,xs[i]?=some a->i<below.go xs j fuel lo hi->a<j)/\(∀i a,xs[i]?=some a->below.go xs j fuel lo hi<=i->j<=a)
 |0,lo,hi,h0,h1,h2,h3,h4=>by
  have e:lo=hi:=ω
  subst e;exact⟨h2,h3,h4⟩
 |fuel+1,lo,hi,h0,h1,h2,h3,h4=>by
  have f:below.go xs j (fuel+1) lo hi=if lo<hi then(if xs.getD ((lo+hi) / 2) j<j then below.go xs j fuel ((lo+hi) / 2+1) hi else below.go xs j fuel lo ((lo+hi) / 2)) else lo:=rfl;rw[f]
  by_cases d:lo<hi
  ·rw[if_pos d]
   have hm:(lo+hi) / 2<xs.size:=ω
   have em:xs[(lo+hi) / 2]?=some xs[(lo+hi) / 2]:=getElem?_pos xs _ hm;have g:xs.getD ((lo+hi) / 2) j=xs[(lo+hi) / 2]:=by simp[Array.getD,hm]
   rw[g]
   by_cases hc:xs[(lo+hi) / 2]<j
   ·rw[if_pos hc]
    refine su hr fuel _ _ ω ω h2 (fun i a e c=>?_) h4;rcases Nat.lt_or_eq_of_le (Nat.lt_succ_iff.mp c) with q|q
    ·exact Nat.lt_trans (hr _ _ _ _ e em q) hc
    ·subst q;rw[em] at e;cases e;exact hc
   ·rw[if_neg hc]
    refine su hr fuel _ _ ω ω ω h3 (fun i a e c=>?_);rcases Nat.lt_or_eq_of_le c with q|q
    ·have:=hr _ _ _ _ em e q
     omega
    ·subst q;rw[em] at e;cases e;omega
  ·rw[if_neg d]
   have e:lo=hi:=ω
   subst e;exact⟨h2,h3,h4⟩
def k4{xs:Array Nat}(hr:Ris xs)(j:Nat):below xs j<=xs.size/\(∀i a,xs[i]?=some a->i<below xs j->a<j)/\(∀i a,xs[i]?=some a->below xs j<=i->j<=a):=
 su hr xs.size 0 xs.size ω ω (Ag _) (fun _ _ _ h=>absurd h (Nat.not_lt_zero _)) (fun i a e h=>by have:=(Array.getElem?_eq_some_iff.mp e).1;omega)
def below_at{xs:Array Nat}(hr:Ris xs){i j:Nat}(e:xs[i]?=some j):below xs j=i:=by
 obtain⟨h1,h2,a⟩:=k4 hr j;rcases Nat.lt_trichotomy (below xs j) i with q|q|q
 ·have hb:below xs j<xs.size:=Nat.lt_trans q (Array.getElem?_eq_some_iff.mp e).1
  have e2:=getElem?_pos xs (below xs j) hb;have c:=a _ _ e2 (Ag _);have d:=hr _ _ _ _ e2 e q;omega
 ·exact q
 ·exact absurd (h2 i j e q) (Nat.lt_irrefl _)
def fi{a:Type}(xs:Array a)(p:Nat)(x:a)(hp:p<=xs.size)(i:Nat):(insertAt xs p x)[i]?=if i<p then xs[i]? else if i=p then some x else xs[i-1]?:=by
 unfold insertAt;have hs:((xs.extract 0 p).push x).size=p+1:=by rw[Array.size_push,Array.size_extract];omega
 by_cases h1:i<p
 ·rw[if_pos h1,Array.getElem?_append_left ω,Array.getElem?_push_lt (by rw[Array.size_extract];omega)]
  simp[Array.getElem_extract,h1]
 ·rw[if_neg h1]
  by_cases h2:i=p
  ·subst h2
   rw[if_pos rfl,Array.getElem?_append_left ω];have e:(xs.extract 0 i).size=i:=by rw[Array.size_extract];omega
   have:=Array.getElem?_push_size (xs:=xs.extract 0 i) (x:=x);rw[e] at this;exact this
  ·rw[if_neg h2,Array.getElem?_append_right ω,hs,Array.getElem?_extract]
   by_cases c:i-(p+1)<xs.size-p
   ·rw[if_pos ω]
    congr 1
    omega
   ·rw[if_neg ω]
    exact(Array.getElem?_eq_none ω).symm
def k7{a:Type}(xs:Array a)(p:Nat)(x:a)(hp:p<=xs.size):(insertAt xs p x).size=xs.size+1:=by
 unfold insertAt;rw[Array.size_append,Array.size_push,Array.size_extract,Array.size_extract];omega
def EM{xs:Array Nat}(hr:Ris xs){j:Nat}(p:∀i:Nat,xs[i]?≠some j):Ris (insertAt xs (below xs j) j):=by
 obtain⟨h1,h2,o⟩:=k4 hr j;intro a b x y d c l;rw[fi _ _ _ h1] at d c
 by_cases e:a<below xs j
 ·rw[if_pos e] at d
  by_cases f:b<below xs j
  ·rw[if_pos f] at c;exact hr _ _ _ _ d c l
  ·rw[if_neg f] at c
   by_cases g:b=below xs j
   ·rw[if_pos g] at c;cases c;exact h2 _ _ d e
   ·rw[if_neg g] at c;exact hr _ _ _ _ d c ω
 ·rw[if_neg e] at d
  rw[if_neg ω] at c
  by_cases h:a=below xs j
  ·rw[if_pos h] at d;cases d
   rw[if_neg ω] at c;have:=o _ _ c ω;rcases Nat.lt_or_eq_of_le this with q|q
   ·exact q
   ·subst q;exact absurd c (p _)
  ·rw[if_neg h] at d
   rw[if_neg ω] at c;exact hr _ _ _ _ d c ω
def fy(mask:Nat)(p:Probe):Probe:=
 if p.more>0 then {p with j:=p.j+1,more:=p.more-1} else
 {p with j:=(leap mask p.i p.perturb).1,more:=runEnd mask (leap mask p.i p.perturb).1-(leap mask p.i p.perturb).1,i:=(leap mask p.i p.perturb).1,perturb:=(leap mask p.i p.perturb).2}
def first(mask:Nat)(h:Int):Probe:={j:=bits h%(mask+1),more:=runEnd mask (bits h%(mask+1))-bits h%(mask+1),i:=bits h%(mask+1),perturb:=bits h,dummy:=none}
def pr(mask:Nat)(h:Int):Nat->Probe
 |0=>first mask h
 |n+1=>fy mask (pr mask h n)
def pos(mask:Nat)(h:Int)(n:Nat):Nat:=(pr mask h n).j
def ya(mask:Nat)(h:Int):∀n,(pr mask h n).dummy=none
 |0=>rfl
 |n+1=>by
  show(fy mask (pr mask h n)).dummy=none;unfold fy;split<;>exact ya mask h n
def lp(mask:Nat)(h:Int):Nat->Nat×Nat
 |0=>(bits h%(mask+1),bits h)
 |r+1=>leap mask (lp mask h r).1 (lp mask h r).2
def EN(mask i:Nat):runEnd mask i-i<=9:=by unfold runEnd;split<;>omega
def nJ(mask:Nat)(h:Int){n r:Nat}(e:pr mask h n={j:=(lp mask h r).1,more:=runEnd mask (lp mask h r).1-(lp mask h r).1,i:=(lp mask h r).1,perturb:=(lp mask h r).2,dummy:=none}):∀k,k<=runEnd mask (lp mask h r).1-(lp mask h r).1->pr mask h (n+k)={j:=(lp mask h r).1+k,more:=runEnd mask (lp mask h r).1-(lp mask h r).1-k,i:=(lp mask h r).1,perturb:=(lp mask h r).2,dummy:=none}
 |0,_=>e
 |k+1,hk=>by
  have a:=nJ mask h e k ω;show fy mask (pr mask h (n+k))=_;rw[a];unfold fy;rw[if_pos (by show runEnd mask (lp mask h r).1-(lp mask h r).1-k>0;omega)]
  congr 1
def yb(mask:Nat)(h:Int):∀r,∃n,n<=10*r/\pr mask h n={j:=(lp mask h r).1,more:=runEnd mask (lp mask h r).1-(lp mask h r).1,i:=(lp mask h r).1,perturb:=(lp mask h r).2,dummy:=none}
 |0=>⟨0,Ag _,rfl⟩
 |r+1=>by
  obtain⟨n,a,e⟩:=yb mask h r;have c:=EN mask (lp mask h r).1;refine⟨n+(runEnd mask (lp mask h r).1-(lp mask h r).1)+1,ω,?_⟩;show fy mask (pr mask h (n+(runEnd mask (lp mask h r).1-(lp mask h r).1)))=_;rw[nJ mask h e _ (Ag _)];unfold fy;rw[if_neg (by show ¬(runEnd mask (lp mask h r).1-(lp mask h r).1-(runEnd mask (lp mask h r).1-(lp mask h r).1)>0);omega)]
  rfl
def EO(h:Int):bits h<2 ^ 64:=by
 unfold bits;have h1:(0:Int)<=h%(2 ^ 64:Int):=Int.emod_nonneg _ ξ;have h2:h%(2 ^ 64:Int)<2 ^ 64:=Int.emod_lt_of_pos _ ξ;omega
def yd(mask:Nat)(h:Int):∀r,(lp mask h r).2=bits h / 32 ^ r
 |0=>by simp[lp]
 |r+1=>by
  show(lp mask h r).2 / 32=_;rw[yd mask h r,Nat.div_div_eq_div_mul,Nat.pow_succ]
def EQ(mask:Nat)(h:Int){r:Nat}(hr:13<=r):(lp mask h r).2=0:=by
 rw[yd];have h1:=EO h;have h2:32 ^ 13<=32 ^ r:=Nat.pow_le_pow_right ξ hr;exact Nat.div_eq_of_lt (Ay h1 (AA ξ h2))
def ye(mask:Nat)(h:Int):∀r,(lp mask h r).1<=mask
 |0=>Nat.lt_succ_iff.mp (Nat.mod_lt _ (Nat.succ_pos _))
 |r+1=>Nat.lt_succ_iff.mp (Nat.mod_lt _ (Nat.succ_pos _))
def f5(mask x:Nat):Nat:=(x*5+1)%(mask+1)
def eY(mask:Nat):Nat->Nat->Nat
 |0,x=>x
 |k+1,x=>f5 mask (eY mask k x)
def sx(mask:Nat)(h:Int):∀k,(lp mask h (13+k)).1=eY mask k (lp mask h 13).1
 |0=>rfl
 |k+1=>by
  show((lp mask h (13+k)).1*5+1+(lp mask h (13+k)).2 / 32)%(mask+1)=f5 mask (eY mask k (lp mask h 13).1);rw[EQ mask h ω,sx mask h k]
  rfl
def eZ(mask:Nat):Prop:=∀i s,i<=mask->s<=mask->∃k,k<=mask/\eY mask k i=s
def jB(mask:Nat):Nat->Nat->List Nat
 |0,_=>[]
 |n+1,x=>x::jB mask n (f5 mask x)
def yf(mask:Nat):∀(n x k:Nat),k<n->(jB mask n x)[k]?=some (eY mask k x)
 |0,_,_,h=>absurd h (Nat.not_lt_zero _)
 |n+1,x,0,_=>rfl
 |n+1,x,k+1,h=>by
  have a:=yf mask n (f5 mask x) k ω;show(jB mask n (f5 mask x))[k]?=_;rw[a]
  congr 1
  have c:∀k x,eY mask k (f5 mask x)=f5 mask (eY mask k x):=by
   intro k
   induction k with
   |zero=>intro x;rfl
   |succ k a=>intro x;show f5 mask (eY mask k (f5 mask x))=_;rw[a];rfl
  exact c k x
def sF(mask:Nat):∀n x,(jB mask n x).length=n
 |0,_=>rfl
 |n+1,x=>by show(jB mask n (f5 mask x)).length+1=_;rw[sF mask n]
def nM(mask:Nat):∀(a b x:Nat),eY mask (a+b) x=eY mask a (eY mask b x)
 |0,b,x=>by rw[Bl];rfl
 |a+1,b,x=>by
  rw[Nat.add_right_comm];show f5 mask (eY mask (a+b) x)=_;rw[nM mask a b x]
  rfl
def k8{mask:Nat}(h:((AQ (mask+1)).all fun s=>(jB mask (mask+1) 0).contains s)=true)(hp:eY mask (mask+1) 0=0):eZ mask:=by
 have all:∀s,s<=mask->∃k,k<=mask/\eY mask k 0=s:=fun s hs=>by
  have h2:=List.all_eq_true.mp h s (List.mem_range.mpr ω);obtain⟨k,hk,e⟩:=List.mem_iff_getElem.mp (List.contains_iff_mem.mp h2);rw[sF] at hk;refine⟨k,ω,?_⟩;have e2:=yf mask (mask+1) 0 k hk;rw[Ao (by rw[sF];exact hk),e] at e2;exact(As e2).symm
 intro i s hi hs;obtain⟨a,f,c⟩:=all i hi;obtain⟨b,hb,d⟩:=all s hs;rcases Nat.lt_or_ge b a with q|q
 ·refine⟨mask+1-a+b,ω,?_⟩
  rw[<-c,<-nM,show mask+1-a+b+a=b+(mask+1) from ω,nM,hp,d]
 ·refine⟨b-a,ω,?_⟩
  rw[<-c,<-nM,show b-a+a=b from ω,d]
def sI:eZ 7:=k8 δ δ
def hG:eZ 31:=k8 δ δ
def lg:eZ 63:=k8 δ δ
def iK:eZ 255:=k8 δ δ
def iL:eZ 127:=k8 δ δ
def li{mask:Nat}(hc:eZ mask)(h:Int){x:Nat}(hx:x<=mask):∃n,n<10*turns mask/\pos mask h n=x:=by
 obtain⟨k,hk,e⟩:=hc (lp mask h 13).1 x (ye mask h 13) hx;obtain⟨n,a,e2⟩:=yb mask h (13+k);refine⟨n,by unfold turns;omega,?_⟩;show(pr mask h n).j=x;rw[e2];show(lp mask h (13+k)).1=x;rw[sx,e]
def eA(mask:Nat)(h:Int)(n:Nat):pos mask h n<=mask:=by
 have key:∀n,(pr mask h n).i<=mask/\(pr mask h n).j+(pr mask h n).more<=mask:=by
  intro n;have a:∀i,i<=mask->i+(runEnd mask i-i)<=mask:=fun i hi=>by unfold runEnd;split<;>omega
  induction n with
  |zero=>
   have q:bits h%(mask+1)<=mask:=Nat.lt_succ_iff.mp (Nat.mod_lt _ (Nat.succ_pos _));exact⟨q,a _ q⟩
  |succ n ih=>
   show(fy mask (pr mask h n)).i<=mask/\(fy mask (pr mask h n)).j+(fy mask (pr mask h n)).more<=mask;unfold fy;split
   ·exact⟨ih.1,by show(pr mask h n).j+1+((pr mask h n).more-1)<=mask;omega⟩
   ·have q:(leap mask (pr mask h n).i (pr mask h n).perturb).1<=mask:=Nat.lt_succ_iff.mp (Nat.mod_lt _ (Nat.succ_pos _))
    exact⟨q,a _ q⟩
 have:=(key n).2;unfold pos;omega
structure Tb(t:SetTable)(hs:Array Int):Prop where
 ris:Ris t.place
 dum:t.dummies=#[]
 size:t.place.size=hs.size
 le:∀(i j:Nat),t.place[i]?=some j->j<=t.mask
 cov:eZ t.mask
 odd:t.mask%2=1
 room:hs.size<=t.mask
 path:∀(k j:Nat)(h:Int),hs[k]?=some h->t.place[k]?=some j->∃n,pos t.mask h n=j/\∀m,m<n->∃k':Nat,t.place[k']?=some (pos t.mask h m)
def dQ(t:SetTable)(j:Nat):Prop:=∃i:Nat,t.place[i]?=some j
section
variable{t:SetTable}{hs:Array Int}
def jC(T:Tb t hs){i j:Nat}(e:t.place[i]?=some j):t.slot j=.live i:=by
 show(if(t.place[below t.place j]?==some j)=true then Slot.live (below t.place j) else _)=_;rw[below_at T.ris e,e,if_pos (by simp)]
def ER(T:Tb t hs){j:Nat}(e:¬dQ t j):t.slot j=.empty:=by
 show(if(t.place[below t.place j]?==some j)=true then Slot.live (below t.place j) else if has t.dummies j=true then Slot.dummy else Slot.empty)=_;have h1:¬(t.place[below t.place j]?==some j)=true:=by
  intro q;exact e ⟨_,eq_of_beq q⟩
 have h2:has t.dummies j=false:=by
  unfold has;rw[T.dum]
  rfl
 rw[if_neg h1,h2]
 rfl
def ES(T:Tb t hs):∃x,x<=t.mask/\¬dQ t x:=by
 apply Classical.byContradiction;intro a;have all:∀x,x<=t.mask->dQ t x:=fun x hx=>Classical.byContradiction fun q=>a ⟨x,hx,q⟩;have sub:AQ (t.mask+1) ⊆ t.place.toList:=fun x hx=>by
  obtain⟨i,e⟩:=all x (Nat.lt_succ_iff.mp (List.mem_range.mp hx));rw[<-AD] at e;exact Az e
 have:=(List.nodup_range (n:=t.mask+1)).length_le_of_subset sub;rw[List.length_range,Af,T.size] at this;have:=T.room;omega
def least{P:Nat->Prop}(n:Nat)(h:P n):∃m,m<=n/\P m/\∀k,k<m->¬P k:=by
 induction n using Nat.strongRecOn with
 |ind n ih=>
  by_cases q:∃k,k<n/\P k
  ·obtain⟨k,hk,a⟩:=q
   obtain⟨m,h1,h2,c⟩:=ih k hk a;exact⟨m,ω,h2,c⟩
  ·exact⟨n,Ag _,h,fun k hk a=>q ⟨k,hk,a⟩⟩
def yg(T:Tb t hs)(h:Int):∃ne,ne<10*turns t.mask/\¬dQ t (pos t.mask h ne)/\∀m,m<ne->dQ t (pos t.mask h m):=by
 obtain⟨x,hx,fx⟩:=ES T;obtain⟨n,c,e⟩:=li T.cov h hx;obtain⟨m,h1,h2,a⟩:=least (P:=fun m=>¬dQ t (pos t.mask h m)) n (by rw[e];exact fx);exact⟨m,ω,h2,fun k hk=>Classical.byContradiction fun q=>a k hk q⟩
def sZ(T:Tb t hs){hashAt:Nat->Int}{h:Int}:∀(d fuel n:Nat),(∀m,n<=m->m<n+d->∃i:Nat,t.place[i]?=some (pos t.mask h m)/\hashAt i≠h)->probe.go t hashAt h (fuel+d) (pr t.mask h n)=probe.go t hashAt h fuel (pr t.mask h (n+d))
 |0,fuel,n,_=>rfl
 |d+1,fuel,n,hm=>by
  obtain⟨i,e1,e2⟩:=hm n (Ag _) ω;have es:t.slot (pr t.mask h n).j=.live i:=jC T e1;have a:=sZ T d fuel (n+1) (fun m h1 h2=>hm m ω ω);rw[show fuel+(d+1)=(fuel+d)+1 from ω,show n+(d+1)=n+1+d from ω,<-a];show(match t.slot (pr t.mask h n).j with
   |.empty=>some (Met.empty (pr t.mask h n).j (pr t.mask h n).dummy)
   |.dummy=>probe.go t hashAt h (fuel+d) (t.advance {(pr t.mask h n) with dummy:=some (pr t.mask h n).j})
   |.live i=>if hashAt i==h then some (Met.candidate (pr t.mask h n).j i (t.advance (pr t.mask h n))) else probe.go t hashAt h (fuel+d) (t.advance (pr t.mask h n)))=_
  rw[es];dsimp only;rw[if_neg (by simpa using e2)]
  rfl
def probe_spec(T:Tb t hs){hashAt:Nat->Int}{h:Int}{ne n:Nat}(v:ne<10*turns t.mask)(he:¬dQ t (pos t.mask h ne))(hm:∀m,m<ne->dQ t (pos t.mask h m))(w:n<=ne):(t.probe hashAt h (pr t.mask h n)=some (.empty (pos t.mask h ne) none)/\∀m i,n<=m->m<ne->t.place[i]?=some (pos t.mask h m)->hashAt i≠h) \/
  ∃(N i:Nat),n<=N/\N<ne/\t.place[i]?=some (pos t.mask h N)/\hashAt i=h/\t.probe hashAt h (pr t.mask h n)=some (.candidate (pos t.mask h N) i (pr t.mask h (N+1)))/\∀m f,n<=m->m<N->t.place[f]?=some (pos t.mask h m)->hashAt f≠h:=by
 by_cases q:∃N,n<=N/\N<ne/\∃i:Nat,t.place[i]?=some (pos t.mask h N)/\hashAt i=h
 ·right
  obtain⟨p,r⟩:=q;obtain⟨N,h1,⟨h2,s,i,l,o⟩,u⟩:=least (P:=fun N=>n<=N/\N<ne/\∃i:Nat,t.place[i]?=some (pos t.mask h N)/\hashAt i=h) p r;have g:∀m f,n<=m->m<N->t.place[f]?=some (pos t.mask h m)->hashAt f≠h:=fun m f a b c d=>u m b ⟨a,ω,f,c,d⟩;refine⟨N,i,h2,s,l,o,?_,g⟩;obtain⟨fuel,hf⟩:∃fuel,10*turns t.mask=(fuel+1)+(N-n):=⟨10*turns t.mask-(N-n)-1,ω⟩;unfold SetTable.probe;rw[hf,sZ T (N-n) (fuel+1) n (fun m a b=>?_),show n+(N-n)=N from ω]
  ·show(match t.slot (pr t.mask h N).j with
    |.empty=>some (Met.empty (pr t.mask h N).j (pr t.mask h N).dummy)
    |.dummy=>probe.go t hashAt h fuel (t.advance {(pr t.mask h N) with dummy:=some (pr t.mask h N).j})
    |.live i=>if hashAt i==h then some (Met.candidate (pr t.mask h N).j i (t.advance (pr t.mask h N))) else probe.go t hashAt h fuel (t.advance (pr t.mask h N)))=_
   rw[show t.slot (pr t.mask h N).j=.live i from jC T l];dsimp only;rw[if_pos (by simpa using o)]
   rfl
  ·obtain⟨f,e⟩:=hm m ω
   exact⟨f,e,g m f a ω e⟩
 ·left
  have g:∀m i,n<=m->m<ne->t.place[i]?=some (pos t.mask h m)->hashAt i≠h:=fun m i a b c d=>q ⟨m,a,b,i,c,d⟩;refine⟨?_,g⟩;obtain⟨fuel,hf⟩:∃fuel,10*turns t.mask=(fuel+1)+(ne-n):=⟨10*turns t.mask-(ne-n)-1,ω⟩;unfold SetTable.probe;rw[hf,sZ T (ne-n) (fuel+1) n (fun m a b=>?_),show n+(ne-n)=ne from ω]
  ·show(match t.slot (pr t.mask h ne).j with
    |.empty=>some (Met.empty (pr t.mask h ne).j (pr t.mask h ne).dummy)
    |.dummy=>probe.go t hashAt h fuel (t.advance {(pr t.mask h ne) with dummy:=some (pr t.mask h ne).j})
    |.live i=>if hashAt i==h then some (Met.candidate (pr t.mask h ne).j i (t.advance (pr t.mask h ne))) else probe.go t hashAt h fuel (t.advance (pr t.mask h ne)))=_
   rw[show t.slot (pr t.mask h ne).j=.empty from ER T he];dsimp only;rw[ya]
   rfl
  ·obtain⟨f,e⟩:=hm m ω
   exact⟨f,e,g m f a ω e⟩
def ET(T:Tb t hs){h:Int}{ne k j:Nat}(he:¬dQ t (pos t.mask h ne))(hk:hs[k]?=some h)(a:t.place[k]?=some j):∃N,N<ne/\pos t.mask h N=j:=by
 obtain⟨n,e,hm⟩:=T.path k j h hk a;refine⟨n,?_,e⟩;rcases Nat.lt_trichotomy n ne with q|q|q
 ·exact q
 ·subst q;exact absurd ⟨k,by rw[e];exact a⟩ he
 ·exact absurd (hm ne q) he
def yh(T:Tb t hs){h:Int}{ne:Nat}(he:¬dQ t (pos t.mask h ne))(hm:∀m,m<ne->dQ t (pos t.mask h m))(hr:hs.size+1<=t.mask):(t.put (pos t.mask h ne)).2<=hs.size/\(t.put (pos t.mask h ne)).1.mask=t.mask/\Tb (t.put (pos t.mask h ne)).1 (insertAt hs (t.put (pos t.mask h ne)).2 h):=by
 have r:∀i:Nat,t.place[i]?≠some (pos t.mask h ne):=fun i e=>he ⟨i,e⟩;obtain⟨f,s,u⟩:=k4 T.ris (pos t.mask h ne);have hb:below t.place (pos t.mask h ne)<=hs.size:=by rw[<-T.size];exact f
 have g:(t.put (pos t.mask h ne)).1.place=insertAt t.place (below t.place (pos t.mask h ne)) (pos t.mask h ne):=rfl;have mk:(t.put (pos t.mask h ne)).1.mask=t.mask:=rfl;have d:∀j,dQ t j->∃p:Nat,(t.put (pos t.mask h ne)).1.place[p]?=some j:=fun j ⟨i,e⟩=>by
  by_cases q:i<below t.place (pos t.mask h ne)
  ·exact⟨i,by rw[g,fi _ _ _ f,if_pos q];exact e⟩
  ·exact⟨i+1,by rw[g,fi _ _ _ f,if_neg ω,if_neg ω,Nat.add_sub_cancel];exact e⟩
 refine⟨hb,mk,⟨?_,?_,?_,fun i j e=>?_,T.cov,T.odd,?_,fun k j h' e1 e2=>?_⟩⟩
 ·rw[g];exact EM T.ris r
 ·show(if has t.dummies (pos t.mask h ne)=true then _ else t.dummies)=#[]
  rw[T.dum]
  rfl
 ·rw[g,k7 _ _ _ f]
  show _=(insertAt hs (below t.place (pos t.mask h ne)) h).size;rw[k7 _ _ _ hb,T.size]
 ·rw[g,fi _ _ _ f] at e
  rw[mk]
  by_cases q1:i<below t.place (pos t.mask h ne)
  ·rw[if_pos q1] at e;exact T.le _ _ e
  ·rw[if_neg q1] at e
   by_cases o:i=below t.place (pos t.mask h ne)
   ·rw[if_pos o] at e;cases e;exact eA _ _ _
   ·rw[if_neg o] at e;exact T.le _ _ e
 ·show(insertAt hs (below t.place (pos t.mask h ne)) h).size<=t.mask
  rw[k7 _ _ _ hb];exact hr
 ·have c:(insertAt hs (below t.place (pos t.mask h ne)) h)[k]?=some h':=e1
  rw[fi _ _ _ hb] at c;rw[g,fi _ _ _ f] at e2;rw[mk]
  by_cases q1:k<below t.place (pos t.mask h ne)
  ·rw[if_pos q1] at c e2
   obtain⟨n,a,b⟩:=T.path k j h' c e2;exact⟨n,a,fun m l=>d _ (b m l)⟩
  ·rw[if_neg q1] at c e2
   by_cases o:k=below t.place (pos t.mask h ne)
   ·rw[if_pos o] at c e2
    cases c;cases e2;exact⟨ne,rfl,fun m l=>d _ (hm m l)⟩
   ·rw[if_neg o] at c e2
    obtain⟨n,a,b⟩:=T.path (k-1) j h' c e2;exact⟨n,a,fun m l=>d _ (b m l)⟩
end
def yi(finger moves:Nat)(led:Bool):Tb (SetTable.fresh finger moves led) #[]:=
 ⟨fun i j a b h=>by simp[SetTable.fresh] at h,rfl,rfl,fun i j h=>by simp[SetTable.fresh] at h,sI,show 7%2=1 from rfl,show 0<=7 from AW _,fun k j h e=>by simp at e⟩
def Own(owner:Array (Option Nat))(j:Nat):Prop:=∃q,owner[j]?=some (some q)
def cR(mask:Nat)(h:Int):Nat->Nat
 |0=>0
 |r+1=>cR mask h r+(runEnd mask (lp mask h r).1-(lp mask h r).1)+1
def EU(mask:Nat)(h:Int){r R:Nat}(hr:r<=R):cR mask h r<=cR mask h R:=by
 induction hr with
 |refl=>exact Ag _
 |step _ ih=>exact AA ih (by show _<=cR mask h _+_+1;omega)
def ti(mask:Nat)(h:Int):∀r,pr mask h (cR mask h r)={j:=(lp mask h r).1,more:=runEnd mask (lp mask h r).1-(lp mask h r).1,i:=(lp mask h r).1,perturb:=(lp mask h r).2,dummy:=none}
 |0=>rfl
 |r+1=>by
  show fy mask (pr mask h (cR mask h r+(runEnd mask (lp mask h r).1-(lp mask h r).1)))=_;rw[nJ mask h (ti mask h r) _ (Ag _)];unfold fy;rw[if_neg (by show ¬(runEnd mask (lp mask h r).1-(lp mask h r).1-(runEnd mask (lp mask h r).1-(lp mask h r).1)>0);omega)]
  rfl
def tj{owner:Array (Option Nat)}{mask j:Nat}(d:owner.size=mask+1)(f:j<=mask):(owner.getD j (some 0)).isNone=true↔¬Own owner j:=by
 have a:j<owner.size:=ω
 have e:owner.getD j (some 0)=owner[j]:=by simp[Array.getD,a]
 have e2:owner[j]?=some owner[j]:=getElem?_pos owner j a;rw[e];constructor
 ·intro h ⟨q,hq⟩
  rw[e2] at hq;rw[As hq] at h;cases h
 ·intro h
  cases c:owner[j] with
  |none=>rfl
  |some q=>exact absurd ⟨q,by rw[e2,c]⟩ h
def EV{mask:Nat}{owner:Array (Option Nat)}(e:owner.size=mask+1)(h:Int){ne R:Nat}(he:¬Own owner (pos mask h ne))(hm:∀m,m<ne->Own owner (pos mask h m))(hR:ne<=cR mask h R):∀(fuel r:Nat),cR mask h r<=ne->R<r+fuel->layClean.free mask owner fuel (lp mask h r).1 (lp mask h r).2=some (pos mask h ne):=by
 intro fuel
 induction fuel with
 |zero=>
  intro r h1 h2;have q:=EU mask h (r:=R+1) (R:=r) ω;have:cR mask h (R+1)=cR mask h R+(runEnd mask (lp mask h R).1-(lp mask h R).1)+1:=rfl;omega
 |succ fuel ih=>
  intro r i hr;have walk:=nJ mask h (ti mask h r);have c:∀k,k<=runEnd mask (lp mask h r).1-(lp mask h r).1->pos mask h (cR mask h r+k)=(lp mask h r).1+k:=fun k hk=>by
   unfold pos;rw[walk k hk]
  have f:(lp mask h r).1<=runEnd mask (lp mask h r).1:=by unfold runEnd;split<;>omega
  have a:∀k,k<=runEnd mask (lp mask h r).1-(lp mask h r).1->(lp mask h r).1+k<=mask:=fun k hk=>by rw[<-c k hk];exact eA _ _ _
  show(match (AQ (runEnd mask (lp mask h r).1+1-(lp mask h r).1)).find? (fun k=>(owner.getD ((lp mask h r).1+k) (some 0)).isNone) with
   |some k=>some ((lp mask h r).1+k)
   |none=>layClean.free mask owner fuel (leap mask (lp mask h r).1 (lp mask h r).2).1 (leap mask (lp mask h r).1 (lp mask h r).2).2)=_
  by_cases g:ne<=cR mask h r+(runEnd mask (lp mask h r).1-(lp mask h r).1)
  ·have d:(AQ (runEnd mask (lp mask h r).1+1-(lp mask h r).1)).find? (fun k=>(owner.getD ((lp mask h r).1+k) (some 0)).isNone)=some (ne-cR mask h r):=by
    rw[List.find?_range_eq_some];refine⟨?_,List.mem_range.mpr ω,fun k hk=>?_⟩
    ·show(owner.getD ((lp mask h r).1+(ne-cR mask h r)) (some 0)).isNone=true
     rw[tj e (a _ ω),<-c _ ω,show cR mask h r+(ne-cR mask h r)=ne from ω];exact he
    ·have q:¬(owner.getD ((lp mask h r).1+k) (some 0)).isNone=true:=by
      rw[tj e (a _ ω),<-c k ω];exact fun z=>z (hm _ ω)
     rw[Bool.not_eq_true] at q;rw[q]
     rfl
   rw[d];dsimp only;rw[<-c _ ω,show cR mask h r+(ne-cR mask h r)=ne from ω]
  ·have d:(AQ (runEnd mask (lp mask h r).1+1-(lp mask h r).1)).find? (fun k=>(owner.getD ((lp mask h r).1+k) (some 0)).isNone)=none:=by
    rw[List.find?_eq_none];intro k hk;have hk':=List.mem_range.mp hk;rw[tj e (a _ ω),<-c k ω];exact fun z=>z (hm _ ω)
   rw[d];dsimp only;refine ih (r+1) ?_ ω;show cR mask h r+(runEnd mask (lp mask h r).1-(lp mask h r).1)+1<=ne;omega
structure Lay(mask:Nat)(aj:List Int)(owner:Array (Option Nat))(k:Nat):Prop where
 size:owner.size=mask+1
 all:∀q:Nat,q<k->∃j:Nat,owner[j]?=some (some q)
 back:∀j q:Nat,owner[j]?=some (some q)->q<k
 one:∀(i j q:Nat),owner[i]?=some (some q)->owner[j]?=some (some q)->i=j
 path:∀(j q:Nat)(h:Int),owner[j]?=some (some q)->aj[q]?=some h->∃n,pos mask h n=j/\∀m,m<n->Own owner (pos mask h m)
def Lay.room{mask:Nat}{h:List Int}{owner:Array (Option Nat)}{k:Nat}(L:Lay mask h owner k)(hk:k<=mask):∃x,x<=mask/\¬Own owner x:=by
 apply Classical.byContradiction;intro d;have all:∀x,x<=mask->∃q,q<k/\owner[x]?=some (some q):=fun x hx=>by
  have:Own owner x:=Classical.byContradiction fun q=>d ⟨x,hx,q⟩;obtain⟨q,e⟩:=this;exact⟨q,L.back x q e,e⟩
 have sub:((AQ (mask+1)).map fun x=>(owner.getD x none).getD 0) ⊆ AQ k:=fun y hy=>by
  obtain⟨x,hx,e⟩:=List.mem_map.mp hy;obtain⟨q,hq,e2⟩:=all x (Nat.lt_succ_iff.mp (List.mem_range.mp hx));rw[Array.getD_eq_getD_getElem?,e2] at e;subst e;exact List.mem_range.mpr hq
 have g:((AQ (mask+1)).map fun x=>(owner.getD x none).getD 0).Nodup:=by
  refine List.nodup_iff_pairwise_ne.mpr (List.pairwise_map.mpr ?_);refine List.Pairwise.imp_of_mem ?_ (List.nodup_iff_pairwise_ne.mp (List.nodup_range (n:=mask+1)));intro a b f hb c e;obtain⟨q,_,e1⟩:=all a (Nat.lt_succ_iff.mp (List.mem_range.mp f));obtain⟨p,_,e2⟩:=all b (Nat.lt_succ_iff.mp (List.mem_range.mp hb));simp only[Array.getD_eq_getD_getElem?,e1,e2,Option.getD_some] at e;subst e;exact c (L.one a b q e1 e2)
 have:=g.length_le_of_subset sub;rw[Ab,List.length_range,List.length_range] at this;omega
def EW{owner:Array (Option Nat)}{mask j k:Nat}(a:owner.size=mask+1)(c:j<=mask)(i:Nat):(owner.setIfInBounds j (some k))[i]?=if i=j then some (some k) else owner[i]?:=by
 by_cases q:i=j
 ·subst q
  rw[if_pos rfl,Array.getElem?_setIfInBounds_self_of_lt ω]
 ·rw[if_neg q,Array.getElem?_setIfInBounds_ne (Ne.symm q)]
def Lay.step{mask:Nat}{c:List Int}{owner:Array (Option Nat)}{k:Nat}{h:Int}(hc:eZ mask)(L:Lay mask c owner k)(hk:k<=mask)(r:c[k]?=some h):∃j,layClean.free mask owner (turns mask) (bits h%(mask+1)) (bits h)=some j/\Lay mask c (owner.setIfInBounds j (some k)) (k+1):=by
 obtain⟨x,hx,fx⟩:=L.room hk;obtain⟨d,hd,e⟩:=hc (lp mask h 13).1 x (ye mask h 13) hx;have o:pos mask h (cR mask h (13+d))=x:=by
  unfold pos;rw[ti];show(lp mask h (13+d)).1=x;rw[sx,e]
 obtain⟨ne,h1,h2,l⟩:=least (P:=fun m=>¬Own owner (pos mask h m)) (cR mask h (13+d)) (by rw[o];exact fx);have hm:∀m,m<ne->Own owner (pos mask h m):=fun m q=>Classical.byContradiction fun z=>l m q z;refine⟨pos mask h ne,EV L.size h h2 hm h1 (turns mask) 0 (AW _) (by unfold turns;omega),?_⟩;have p:pos mask h ne<=mask:=eA _ _ _;have sg:=EW (k:=k) L.size p;have own:∀i,Own owner i->Own (owner.setIfInBounds (pos mask h ne) (some k)) i:=fun i ⟨q,e⟩=>by
  by_cases z:i=pos mask h ne
  ·exact⟨k,by rw[sg,if_pos z]⟩
  ·exact⟨q,by rw[sg,if_neg z];exact e⟩
 refine⟨by rw[Array.size_setIfInBounds];exact L.size,fun q hq=>?_,fun j q e=>?_,fun i j q e1 e2=>?_,fun j q h' e1 e2=>?_⟩
 ·by_cases z:q=k
  ·exact⟨pos mask h ne,by rw[sg,if_pos rfl,z]⟩
  ·obtain⟨j,f⟩:=L.all q ω
   refine⟨j,?_⟩;rw[sg,if_neg fun w=>h2 ⟨q,by rw[<-w];exact f⟩];exact f
 ·rw[sg] at e
  by_cases z:j=pos mask h ne
  ·rw[if_pos z] at e;cases e;omega
  ·rw[if_neg z] at e;have:=L.back j q e;omega
 ·rw[sg] at e1 e2
  by_cases g:i=pos mask h ne
  ·rw[if_pos g] at e1;cases e1
   by_cases z2:j=pos mask h ne
   ·omega
   ·rw[if_neg z2] at e2;have:=L.back j k e2;omega
  ·rw[if_neg g] at e1
   by_cases z2:j=pos mask h ne
   ·rw[if_pos z2] at e2;cases e2;have:=L.back i k e1;omega
   ·rw[if_neg z2] at e2;exact L.one i j q e1 e2
 ·rw[sg] at e1
  by_cases z:j=pos mask h ne
  ·rw[if_pos z] at e1;cases e1
   rw[r] at e2;cases e2;exact⟨ne,z.symm,fun m q=>own _ (hm m q)⟩
  ·rw[if_neg z] at e1
   obtain⟨n,a,b⟩:=L.path j q h' e1 e2;exact⟨n,a,fun m q=>own _ (b m q)⟩
def Lay.nil(mask:Nat)(c:List Int):Lay mask c (Array.replicate (mask+1) none) 0:=by
 have a:∀(j q:Nat),(Array.replicate (mask+1) (none:Option Nat))[j]?=some (some q)->False:=fun j q e=>by
  rw[Array.getElem?_replicate] at e;split at e<;>cases e
 exact⟨by simp,fun q h=>absurd h (Nat.not_lt_zero _),fun j q e=>(a j q e).elim,fun i j q e=>(a i q e).elim,fun j q h e=>(a j q e).elim⟩
def EY{mask:Nat}(hc:eZ mask)(c:Array Int)(hk:c.size<=mask+1):∃owner,layClean mask c=some owner/\Lay mask c.toList owner c.size:=by
 have go:∀(rest:List Int)(owner:Array (Option Nat))(k:Nat),Lay mask c.toList owner k->c.toList.drop k=rest->
   ∃f,(rest.foldl (fun acc h=>do
    let (owner,k) <-acc
    let j <-layClean.free mask owner (turns mask) (bits h%(mask+1)) (bits h)
    pure (owner.setIfInBounds j (some k),k+1)) (some (owner,k)))=some (f,k+rest.length)/\Lay mask c.toList f (k+rest.length):=by
  intro rest
  induction rest with
  |nil=>intro owner k L _;exact⟨owner,rfl,L⟩
  |cons h rest ih=>
   intro owner k L e;have d:k<c.toList.length:=by
    rcases Nat.lt_or_ge k c.toList.length with q|q
    ·exact q
    ·rw[List.drop_eq_nil_of_le q] at e;cases e
   have i:c.toList[k]?=some h:=by
    rw[List.drop_eq_getElem_cons d] at e;injection e with e1 _
    rw[Ao d,e1]
   have l:c.toList.drop (k+1)=rest:=by
    rw[List.drop_eq_getElem_cons d] at e;injection e
   rw[Af] at d;obtain⟨j,g,p⟩:=L.step hc ω i;obtain⟨o',a,b⟩:=ih (owner.setIfInBounds j (some k)) (k+1) p l;refine⟨o',?_,?_⟩
   ·rw[List.foldl_cons]
    show List.foldl _ (layClean.free mask owner (turns mask) (bits h%(mask+1)) (bits h) >>= fun j=>pure (owner.setIfInBounds j (some k),k+1)) rest=_;rw[g];show List.foldl _ (some (owner.setIfInBounds j (some k),k+1)) rest=_;rw[a,Ap,show k+1+rest.length=k+(rest.length+1) from ω]
   ·rw[Ap,show k+(rest.length+1)=k+1+rest.length from ω]
    exact b
 obtain⟨o,a,b⟩:=go c.toList _ 0 (Lay.nil mask _) rfl;rw[Bl,Af] at a b;refine⟨o,?_,b⟩;unfold layClean;rw[<-Array.foldl_toList,a]
 rfl
def cL(owner:Array (Option Nat))(n:Nat):List (Nat×Nat):=(AQ n).filterMap fun j=>(owner.getD j none).map (j,·)
def hO{owner:Array (Option Nat)}{n:Nat}{x:Nat×Nat}:x∈cL owner n↔x.1<n/\owner[x.1]?=some (some x.2):=by
 unfold cL;rw[List.mem_filterMap];constructor
 ·rintro⟨j,a,e⟩
  rw[Option.map_eq_some_iff] at e;obtain⟨q,e1,rfl⟩:=e;refine⟨List.mem_range.mp a,?_⟩;rw[Array.getD_eq_getD_getElem?] at e1;cases c:owner[j]? with
  |none=>rw[c] at e1;cases e1
  |some v=>rw[c] at e1;simp only[Option.getD_some] at e1;rw[e1]
 ·rintro⟨h1,h2⟩
  refine⟨x.1,List.mem_range.mpr h1,?_⟩;rw[Array.getD_eq_getD_getElem?,h2]
  rfl
def yj(owner:Array (Option Nat))(n:Nat):(cL owner n).Pairwise fun x y=>x.1<y.1:=by
 unfold cL;refine List.Pairwise.filterMap (S:=fun x y:Nat×Nat=>x.1<y.1) _ ?_ (List.pairwise_lt_range (n:=n));intro a d h b hb e c;rw[Option.map_eq_some_iff] at hb c;obtain⟨_,_,rfl⟩:=hb;obtain⟨_,_,rfl⟩:=c;exact h
def EZ{mask:Nat}{r:List Int}{owner:Array (Option Nat)}{k:Nat}(L:Lay mask r owner k):(cL owner (mask+1)).length=k/\((cL owner (mask+1)).map (·.2)).Nodup:=by
 have d:((cL owner (mask+1)).map (·.2)).Nodup:=by
  refine List.nodup_iff_pairwise_ne.mpr (List.pairwise_map.mpr ?_);refine List.Pairwise.imp_of_mem ?_ (yj owner (mask+1));intro a b f hb g e;have h1:=(hO.mp f).2;have h2:=(hO.mp hb).2;rw[<-e] at h2;have:=L.one _ _ _ h1 h2;omega
 refine⟨?_,d⟩;have h:(cL owner (mask+1)).map (·.2) ⊆ AQ k:=fun q hq=>by
  obtain⟨x,hx,rfl⟩:=List.mem_map.mp hq;exact List.mem_range.mpr (L.back _ _ (hO.mp hx).2)
 have i:AQ k ⊆ (cL owner (mask+1)).map (·.2):=fun q hq=>by
  obtain⟨j,c⟩:=L.all q (List.mem_range.mp hq);have l:j<mask+1:=by rw[<-L.size];exact(Array.getElem?_eq_some_iff.mp c).1
  exact List.mem_map.mpr ⟨(j,q),hO.mpr ⟨l,c⟩,rfl⟩
 have o:=d.length_le_of_subset h;have p:=(List.nodup_range (n:=k)).length_le_of_subset i;rw[Ab,List.length_range] at o;rw[List.length_range,Ab] at p;omega
def yk{mask:Nat}(hc:eZ mask)(H:mask%2=1)(finger moves:Nat)(led plain:Bool)(c:Array Int)(hk:c.size<=mask):∃t d,laid mask finger moves led plain c=some (t,d)/\t.mask=mask/\t.led=led/\t.plain=plain/\d.size=c.size/\d.toList.Nodup/\(∀q∈d.toList,q<c.size)/\
   Tb t (d.map fun q=>(c[q]?).getD 0):=by
 obtain⟨owner,e,L⟩:=EY hc c ω;obtain⟨u,w⟩:=EZ L;refine⟨_,_,by unfold laid;rw[e];exact rfl,rfl,rfl,rfl,?_,?_,?_,?_⟩
 ·show((cL owner (mask+1)).map (·.2)).toArray.size=_
  rw[Am,Ab,u]
 ·exact w
 ·intro q hq
  obtain⟨x,hx,rfl⟩:=List.mem_map.mp (show q∈(cL owner (mask+1)).map (·.2) from hq);exact L.back _ _ (hO.mp hx).2
 ·have f:∀i:Nat,(((cL owner (mask+1)).map (·.1)).toArray)[i]?=((cL owner (mask+1))[i]?).map (·.1):=fun i=>by
   rw[List.getElem?_toArray,Ar]
  have C:∀i:Nat,(((cL owner (mask+1)).map (·.2)).toArray)[i]?=((cL owner (mask+1))[i]?).map (·.2):=fun i=>by
   rw[List.getElem?_toArray,Ar]
  have p:∀j,Own owner j->∃i:Nat,(((cL owner (mask+1)).map (·.1)).toArray)[i]?=some j:=fun j ⟨q,g⟩=>by
   have o:j<mask+1:=by rw[<-L.size];exact(Array.getElem?_eq_some_iff.mp g).1
   obtain⟨i,hi,z⟩:=List.mem_iff_getElem.mp (hO.mpr ⟨o,g⟩:(j,q)∈cL owner (mask+1));exact⟨i,by rw[f,Ao hi,z];rfl⟩
  refine⟨fun i j a b v hb l=>?_,rfl,?_,fun i j g=>?_,hc,H,?_,fun k j h e1 e2=>?_⟩
  ·have D:((cL owner (mask+1))[i]?).map (·.1)=some a:=by rw[<-f];exact v
   have r:((cL owner (mask+1))[j]?).map (·.1)=some b:=by rw[<-f];exact hb
   obtain⟨x,ex,rfl⟩:=Option.map_eq_some_iff.mp D;obtain⟨y,A,rfl⟩:=Option.map_eq_some_iff.mp r;obtain⟨hi,rfl⟩:=List.getElem?_eq_some_iff.mp ex;obtain⟨o,rfl⟩:=List.getElem?_eq_some_iff.mp A;exact List.pairwise_iff_getElem.mp (yj owner (mask+1)) i j hi o l
  ·show((cL owner (mask+1)).map (·.1)).toArray.size=(Array.map _ ((cL owner (mask+1)).map (·.2)).toArray).size
   rw[A3,Am,Am,Ab,Ab]
  ·have E:((cL owner (mask+1))[i]?).map (·.1)=some j:=by rw[<-f];exact g
   obtain⟨x,ex,rfl⟩:=Option.map_eq_some_iff.mp E;exact Nat.lt_succ_iff.mp (hO.mp (Az ex)).1
  ·show(Array.map _ ((cL owner (mask+1)).map (·.2)).toArray).size<=mask
   rw[A3,Am,Ab,u];exact hk
  ·have F:((cL owner (mask+1))[k]?).map (·.1)=some j:=by rw[<-f];exact e2
   obtain⟨x,ex,rfl⟩:=Option.map_eq_some_iff.mp F;have s:(Array.map (fun q=>(c[q]?).getD 0) ((cL owner (mask+1)).map (·.2)).toArray)[k]?=some h:=e1;rw[Array.getElem?_map,C,ex] at s;have hx:=(hO.mp (Az ex)).2;have hq:=L.back _ _ hx;have G:c.toList[x.2]?=some h:=by
    rw[AD];have:c[x.2]?=some c[x.2]:=getElem?_pos c x.2 hq;simp only[Option.map_some,this,Option.getD_some] at s;rw[this,As s]
   obtain⟨n,a,b⟩:=L.path x.1 x.2 h hx G;exact⟨n,a,fun m hm=>p _ (b m hm)⟩
section
variable{prog:Program}{w:World}{K:Type}[DecidableEq K]{knd:KeyKind prog w K}{A:Around}{E:Ω}{s:Shared}
def fits_of{t:SetTable}{es:Array (Int×Value)}(T:Tb t (es.map (·.1))):t.fits es.size=true:=by
 have h1:=T.size;have h2:=T.room;rw[A3] at h1 h2;unfold SetTable.fits SetTable.fill;rw[T.dum,h1];simp;exact h2
def E1(n:Nat){v:Value}(h:carriedByValue v=true):ofAClassStatement n v=pure false:=by
 cases v with
 |ref a=>simp[carriedByValue] at h
 |_=>cases n<;>rfl
def yl{ks:List K}{b:Addr}{Q:Bool->Shared->Prop}(hk:AZ knd s.heap ks b)(h:Q false s):wpAny (model prog w) A (ofAClassStatement 8 (.ref b)) Q E s:=by
 have f:=hk.typeIs;obtain⟨o,d,n,e,_,hd,hi⟩:=hk;unfold ofAClassStatement;refine Aa (wpAny_typeOf f ?_);show wpAny _ _ ((if("tuple" == "tuple")=true then pure true else isSubtype (.type "tuple") (.type "tuple")) >>= _) _ _ s;rw[if_pos ξ];refine Aa (Ad ?_);simp only[Bool.not_true,Ai,if_false];refine Aa (wpAny_seqItems e hd ?_);refine Aa ?_;show wpAny _ _ (forIn d _ _) _ _ s;rw[<-Array.forIn_toList];refine wpAny_forIn_list _ (fun rest r s'=>r.1=none/\s'=s/\∀v∈rest,carriedByValue v=true) _ ?_ ?_ _ _ ⟨rfl,rfl,hi.byValue⟩
 ·rintro v rest r s' ⟨hr,rfl,a⟩
  rw[E1 _ (a v Aj)];refine Aa (Ad ?_);simp only[Ai,if_false];exact Ad ⟨rfl,rfl,fun u c=>a u (An _ c)⟩
 ·rintro⟨g,i⟩ s' ⟨hr,rfl,_⟩
  simp only at hr;subst hr;exact Ad h
def E2{ks:List K}{b:Addr}{ys:List Value}{Q:Bool->Shared->Prop}(hk:AZ knd s.heap ks b)(hy:∀y∈ys,∃d c,y=.ref c/\AZ knd s.heap d c)(h:Q false s):wpAny (model prog w) A (searchCouldBeSeen (.ref b) ys) Q E s:=by
 unfold searchCouldBeSeen;refine Aa ?_;refine wpAny_forIn_list _ (fun rest r s'=>r.1=none/\s'=s/\∀y∈rest,∃d c,y=.ref c/\AZ knd s.heap d c) _ ?_ ?_ _ _ ⟨rfl,rfl,hy⟩
 ·rintro v rest r s' ⟨hr,rfl,a⟩
  obtain⟨d,c,rfl,hc⟩:=a v Aj;have nx:∀u∈rest,∃d c,u=.ref c/\AZ knd s'.heap d c:=fun u e=>a u (An _ e);dsimp only;split
  ·exact Ad ⟨rfl,rfl,nx⟩
  ·refine Aa (wpAny_eqIsQuiet_tuple hk ?_)
   simp only[Bool.not_true,Ai,if_false];refine Aa (wpAny_eqIsQuiet_tuple hc ?_);simp only[Bool.not_true,Ai,if_false];refine Aa (yl hk ?_);simp only[Ai,if_false];refine Aa (yl hc ?_);simp only[Ai,if_false];exact Ad ⟨rfl,rfl,nx⟩
 ·rintro⟨f,g⟩ s' ⟨hr,rfl,_⟩
  simp only at hr;subst hr;exact Ad h
structure TS(knd:KeyKind prog w K)(h:Heap)(S:Addr)(o:Obj)(es:Array (Int×Value))(ep:Nat)(t:SetTable)(ks:List (List K))(B:List Addr):Prop where
 at_:h.get? S=some o
 ex:o.ExactSet
 dt:o.data=.set es ep t
 tb:Tb t (es.map (·.1))
 sz:es.size=ks.length
 nd:ks.Nodup
 el:∀e∈es.toList,∃k b,k∈ks/\e=(AC knd k,Value.ref b)/\AZ knd h k b
 ke:∀k∈ks,∃b,(AC knd k,Value.ref b)∈es.toList/\AZ knd h k b
 msk:(t.mask=7/\es.size<=4)\/(t.mask=31/\es.size<=18)\/(t.mask=127/\es.size<=76)\/(t.mask=15/\es.size<=8)\/(t.mask=63/\es.size<=37)\/(t.mask=255/\es.size<=152)
 ad:∀e∈es.toList,∃b∈B,e.2=Value.ref b
 wk:w.params.followText "set-order"=true\/(t.led=true/\t.plain=true)
def E3{B:List Addr}{S:Addr}{o:Obj}{es:Array (Int×Value)}{ep:Nat}{t:SetTable}{ks:List (List K)}(X:TS knd s.heap S o es ep t ks B)(hu:A.units<cLine){k:List K}{b:Addr}(hk:AZ knd s.heap k b){ne:Nat}(G:ne<10*turns t.mask)(he:¬dQ t (pos t.mask (AC knd k) ne))(hm:∀m,m<ne->dQ t (pos t.mask (AC knd k) m)){add:Bool}{Q:SetFound->Shared->Prop}(h1:k∈ks->∀r:Option Nat,(add=false->r.isSome=true)->Q (.there r) s)(h2:k∉ks->Q (.free (pos t.mask (AC knd k) ne) false) s):∀(fuel n:Nat)(g:Option Probe),ne<n+fuel->n<=ne->g.getD (t.probeStart (AC knd k))=pr t.mask (AC knd k) n->
   (∀(m i:Nat)(c:Addr),m<n->t.place[i]?=some (pos t.mask (AC knd k) m)->es[i]?=some (AC knd k,Value.ref c)->¬AZ knd s.heap k c)->
   wpAny (model prog w) A (setSearchFrom S (.ref b) (AC knd k) add fuel g) Q E s:=by
 have T:=X.tb;have x:=fits_of T;have hA:∀i:Nat,(es.map (·.1))[i]?=(es[i]?).map (·.1):=fun i=>Array.getElem?_map ..;intro fuel
 induction fuel with
 |zero=>intro n g M H _ _;omega
 |succ fuel ih=>
  intro n g M H O I;unfold setSearchFrom;refine Aa (wpAny_setState_of X.at_ X.dt x ?_);dsimp only;have gw:t.gaveWay=false:=by
   unfold SetTable.gaveWay;rw[T.odd]
   rfl
  rw[gw];simp only[Ai,if_false];rw[O];rcases probe_spec T (hashAt:=fun i=>((es[i]?).map (·.1)).getD 0) G he hm H with ⟨kK,none_⟩|⟨N,i,b1,b2,b3,b4,b5,b6⟩
  ·have mF:t.probe (fun i=>((es[i]?).map (·.1)).getD 0) (AC knd k) (pr t.mask (AC knd k) n)=some (.empty (pos t.mask (AC knd k) ne) none):=kK
   show wpAny _ _ (match t.probe (fun i=>((es[i]?).map (·.1)).getD 0) (AC knd k) (pr t.mask (AC knd k) n) with|some met=>_|_=>_) _ _ s;rw[mF];dsimp only;refine Ad (h2 fun p=>?_);obtain⟨c,P,U⟩:=X.ke k p;obtain⟨i,hi,a⟩:=List.mem_iff_getElem.mp P;have C:es[i]?=some (AC knd k,.ref c):=by
    rw[<-AD,Ao hi,a]
   have D:i<t.place.size:=by rw[T.size,A3];simpa using hi
   have F:t.place[i]?=some t.place[i]:=getElem?_pos t.place i D;obtain⟨N,W,L⟩:=ET T he (k:=i) (by rw[hA,C];rfl) F;rcases Nat.lt_or_ge N n with q|q
   ·exact I N i c q (by rw[L];exact F) C U
   ·exact none_ N i q W (by rw[L];exact F) (by show((es[i]?).map (·.1)).getD 0=_;rw[C];rfl)
  ·show wpAny _ _ (match t.probe (fun i=>((es[i]?).map (·.1)).getD 0) (AC knd k) (pr t.mask (AC knd k) n) with|some met=>_|_=>_) _ _ s
   rw[b5];dsimp only;have hi:i<es.size:=by
    have:=(Array.getElem?_eq_some_iff.mp b3).1;rw[T.size,A3] at this;exact this
   have a:es[i]?=some es[i]:=getElem?_pos es i hi;obtain⟨j,c,hk',Y,hc⟩:=X.el es[i] (by simp);rw[Y] at a;have eh:AC knd j=AC knd k:=by
    have:((es[i]?).map (·.1)).getD 0=AC knd k:=b4;rw[a] at this;exact this
   rw[eh] at a;have l:t.sameMemory t.moves t.mask=some true:=by unfold SetTable.sameMemory;rw[if_pos (by simp)]
   have d:j≠k->wpAny (model prog w) A (setSearchFrom S (.ref b) (AC knd k) add fuel (some (pr t.mask (AC knd k) (N+1)))) Q E s:=fun eq=>by
    refine ih (N+1) _ ω ω rfl fun m i2 u q1 v h J=>?_;rcases Nat.lt_or_ge m n with z|z
    ·exact I m i2 u z v h J
    ·rcases Nat.lt_or_ge m N with z2|z2
     ·exact b6 m i2 z z2 v (by show((es[i2]?).map (·.1)).getD 0=_;rw[h];rfl)
     ·have:m=N:=ω
      subst this;have:=T.ris.inj v b3;subst this;rw[a] at h;cases h;exact eq (IsTupleKey.inj hc J)
   cases led:t.led
   all_goals simp only[Bool.not_true,Bool.not_false,Ai,if_true,if_false]
   ·refine Aa (E2 hk (fun y hy=>?_) ?_)
    ·obtain⟨e,f,rfl⟩:=List.mem_map.mp hy
     rw[Array.toList_filter] at f;obtain⟨k2,u,_,e2,Z⟩:=X.el e (List.mem_filter.mp f).1;exact⟨k2,u,by rw[e2],Z⟩
    simp only[Ai,if_false];rw[a];refine Aa (A0 (wpAny_eqBool_tuple hu hc hk ?_));refine Aa (wpAny_setState_of X.at_ X.dt x ?_)
    by_cases eq:j=k
    ·subst eq
     cases add
     ·simp only[decide_true,Bool.false_and,Ai,if_false]
      rw[l];simp only[if_true];rw[jC T b3];dsimp only;rw[a];refine Aa (wpAny_isSame_ref_self (Aa (Ad ?_)));simp only[if_true];exact Ad (h1 hk' _ fun _=>rfl)
     ·simp only[decide_true,Bool.and_self,if_true]
      exact Ad (h1 hk' _ fun z=>by cases z)
    ·rw[decide_eq_false eq]
     simp only[Bd,Ai,if_false];rw[l];simp only[if_true];rw[jC T b3];dsimp only;rw[a];refine Aa (wpAny_isSame_ref_self (Aa (Ad ?_)));simp only[if_true];exact d eq
   ·rw[a]
    refine Aa (A0 (wpAny_eqBool_tuple hu hc hk ?_));refine Aa (wpAny_setState_of X.at_ X.dt x ?_)
    by_cases eq:j=k
    ·subst eq
     cases add
     ·simp only[decide_true,Bool.false_and,Ai,if_false]
      rw[l];simp only[if_true];rw[jC T b3];dsimp only;rw[a];refine Aa (wpAny_isSame_ref_self (Aa (Ad ?_)));simp only[if_true];exact Ad (h1 hk' _ fun _=>rfl)
     ·simp only[decide_true,Bool.and_self,if_true]
      exact Ad (h1 hk' _ fun z=>by cases z)
    ·rw[decide_eq_false eq]
     simp only[Bd,Ai,if_false];rw[l];simp only[if_true];rw[jC T b3];dsimp only;rw[a];refine Aa (wpAny_isSame_ref_self (Aa (Ad ?_)));simp only[if_true];exact d eq
def iQ{h h':Heap}{S b:Addr}{k:List K}{o:Obj}{es ep t}(hk:AZ knd h k b)(f:h.get? S=some o)(hd:o.data=.set es ep t)(hs:A4 S h h'):AZ knd h' k b:=by
 obtain⟨o',e,n,d,hc,a,hi⟩:=hk;have c:b≠S:=by
  rintro rfl;obtain rfl:o'=o:=As (d.symm.trans f);rw[hd] at a;exact nomatch a
 exact⟨o',e,n,(hs.2 b c).trans d,hc,a,hi⟩
def E4{ks:List K}{b:Addr}{Q:Bool->Shared->Prop}(g:∀k v n,knd.is k v=true->hashByValue n v=pure true)(hk:AZ knd s.heap ks b)(h:Q true s):wpAny (model prog w) A (hashByValue 8 (.ref b)) Q E s:=by
 have f:=hk.typeIs;obtain⟨o,d,n,e,_,hd,hi⟩:=hk;unfold hashByValue;refine Aa (wpAny_specialOf f F.slot_tuple_hash.lookup ?_);dsimp only;refine Aa (wpAny_seqItems e hd ?_);refine Aa ?_;show wpAny _ _ (forIn d _ _) _ _ s;rw[<-Array.forIn_toList];refine wpAny_forIn_list _ (fun rest r s'=>r.1=none/\s'=s/\∃c,ItemsAre knd c rest) _ ?_ ?_ _ _ ⟨rfl,rfl,ks,hi⟩
 ·rintro v rest r s' ⟨hr,rfl,c,a⟩
  cases a with
  |@cons k _ ks'' _ h1 h2=>
   rw[g k v 7 h1];refine Aa (Ad ?_);simp only[Bool.not_true,Ai,if_false];exact Ad ⟨rfl,rfl,ks'',h2⟩
 ·rintro⟨i,j⟩ s' ⟨hr,rfl,_⟩
  simp only at hr;subst hr;exact Ad h
def nO{h:Heap}{S:Addr}{o:Obj}{es:Array (Int×Value)}{ep:Nat}{t:SetTable}{es':Array (Int×Value)}{t':SetTable}(a:h.get? S=some o)(hd:o.data=.set es ep t):(h.update S (Obj.putSet es' t')).get? S=some {o with data:=.set es' (ep+1) t'}:=by
 have:=Heap.get?_update_self (Obj.putSet es' t') a (by rw[putSet_of es' t' hd];rfl);rw[putSet_of es' t' hd] at this;exact this
def tm{c:Type}{es:Array c}:∀{l:List Nat},(∀q∈l,q<es.size)->∃a:List c,l.filterMap (es[·]?)=a/\a.length=l.length/\(∀x∈a,x∈es.toList)/\(∀(i q:Nat),l[i]?=some q->a[i]?=es[q]?)
 |[],_=>⟨[],rfl,rfl,(fun x hx=>by cases hx),(fun i q e=>by cases i<;>simp at e)⟩
 |q::l,h=>by
  obtain⟨a,e1,e2,e3,d⟩:=tm (l:=l) fun x hx=>h x (An _ hx);have hq:=h q Aj;refine⟨es[q]::a,?_,by rw[Ap,Ap,e2],fun x hx=>?_,fun i p e=>?_⟩
  ·rw[List.filterMap_cons,getElem?_pos es q hq,e1]
  ·rcases List.mem_cons.mp hx with rfl|hx
   ·simp
   ·exact e3 x hx
  ·cases i with
   |zero=>simp at e;subst e;simp[getElem?_pos es q hq]
   |succ i=>simp at e ⊢;exact d i p e
def E5{B:List Addr}{S:Addr}{o:Obj}{es:Array (Int×Value)}{ep:Nat}{t:SetTable}{ks:List (List K)}{want m2:Nat}(f:s.heap.get? S=some o)(hex:o.ExactSet)(hd:o.data=.set es ep t)(T:Tb t (es.map (·.1)))(hsz:es.size=ks.length)(P:ks.Nodup)(ad:∀e∈es.toList,∃b∈B,e.2=Value.ref b)(U:∀e∈es.toList,∃k b,k∈ks/\e=(AC knd k,Value.ref b)/\AZ knd s.heap k b)(W:∀k∈ks,∃b,(AC knd k,Value.ref b)∈es.toList/\AZ knd s.heap k b)(hw:SetTable.sizeAbove want-1=m2)(X:SetTable.sizeAbove want<=sizeLine)(hc:eZ m2)(Y:m2%2=1)(hr:es.size<=m2)(hz:es.size<=1000)(Z:(m2=7/\es.size<=4)\/(m2=31/\es.size<=18)\/(m2=127/\es.size<=76)\/(m2=15/\es.size<=8)\/(m2=63/\es.size<=37)\/(m2=255/\es.size<=152))(wk:w.params.followText "set-order"=true\/(t.led=true/\t.plain=true)){Q:Unit->Shared->Prop}(h:∀h' o' es' G t',TS knd h' S o' es' G t' ks B->A4 S s.heap h'->Q () {s with heap:=h'}):wpAny (model prog w) A (setRelay S want) Q E s:=by
 have N:=fits_of T;unfold setRelay;refine Aa (wpAny_setState_of f hd N ?_);dsimp only;rw[if_neg (Nat.not_lt.mpr X)];obtain⟨d,a,e1,e2,e3,H,l,I,g,J⟩:=yk hc Y t.finger (t.movedTo m2) t.led t.plain (es.map (·.1)) (by rw[A3];exact hr);have O:t.relaid (es.map (·.1)) want=some (d,a):=by
  unfold SetTable.relaid;rw[hw];exact e1
 rw[A3] at l g;obtain⟨c,f1,f2,f3,f4⟩:=tm (es:=es) g;have D:a.filterMap (es[·]?)=c.toArray:=by
  apply Array.toList_inj.mp;rw[Array.toList_filterMap,f1]
 have j:c.length=es.size:=by rw[f2,Af,l]
 rw[O];refine Aa ?_;show wpAny _ _ (ite (((a.filterMap (es[·]?)).size != es.size)=true) _ _) _ _ _;rw[if_neg (by rw[D,Am,j];simp),D];refine Ad ?_;dsimp only;have v:(c.toArray.map (·.1))=a.map fun q=>((es.map (·.1))[q]?).getD 0:=by
  apply Array.ext_getElem?;intro i;rw[Array.getElem?_map,Array.getElem?_map,List.getElem?_toArray];cases q:a[i]? with
  |none=>
   have:a.toList.length<=i:=by rw[Af];exact Array.getElem?_eq_none_iff.mp q
   rw[List.getElem?_eq_none ω]
   rfl
  |some p=>
   have e:=f4 i p (by rw[AD];exact q);have hp:=g p (by rw[<-AD] at q;exact Az q);rw[e,getElem?_pos es p hp];simp[hp]
 have T2:Tb d (c.toArray.map (·.1)):=by rw[v];exact J
 have y:∀q,q<es.size->q∈a.toList:=fun q hq=>Classical.byContradiction fun z=>by
  have C:(q::a.toList).Nodup:=List.nodup_cons.mpr ⟨z,I⟩;have sub:(q::a.toList) ⊆ AQ es.size:=fun x hx=>by
   rcases List.mem_cons.mp hx with rfl|hx
   ·exact List.mem_range.mpr hq
   ·exact List.mem_range.mpr (g x hx)
  have:=C.length_le_of_subset sub;rw[Ap,Af,l,List.length_range] at this;omega
 refine wpAny_storeSet_of f hd ?_ (by rw[Am,j,sizeLine_eq];omega);refine h _ {o with data:=.set c.toArray (ep+1) d} c.toArray (ep+1) d ?_ (A6 ..);have F:A4 S s.heap (s.heap.update S (Obj.putSet c.toArray d)):=A6 ..;refine⟨nO f hd,hex,rfl,T2,by rw[Am,j];exact hsz,P,fun e he=>?_,fun k hk=>?_,?_,fun e he=>ad e (f3 e he),by rw[e3,H];exact wk⟩
 ·obtain⟨k,b,r,u,L⟩:=U e (f3 e he)
  exact⟨k,b,r,u,iQ L f hd F⟩
 ·obtain⟨b,r,u⟩:=W k hk
  refine⟨b,?_,iQ u f hd F⟩;obtain⟨q,hq,eq⟩:=List.mem_iff_getElem.mp r;rw[Af] at hq;obtain⟨i,hi,M⟩:=List.mem_iff_getElem.mp (y q hq);have e:=f4 i q (by rw[Ao hi,M]);refine Az (i:=i) ?_;rw[e,<-eq];simp[hq]
 ·rw[e2,Am,j]
  exact Z
def ins_map{a c:Type}(f:a->c)(xs:Array a)(p:Nat)(x:a)(hp:p<=xs.size):(insertAt xs p x).map f=insertAt (xs.map f) p (f x):=by
 apply Array.ext_getElem?;intro i;rw[Array.getElem?_map,fi _ _ _ hp,fi _ _ _ (by rw[A3];exact hp),Array.getElem?_map,Array.getElem?_map]
 by_cases h1:i<p
 ·rw[if_pos h1,if_pos h1]
 ·rw[if_neg h1,if_neg h1]
  by_cases h2:i=p
  ·rw[if_pos h2,if_pos h2];rfl
  ·rw[if_neg h2,if_neg h2]
def ins_mem{a:Type}{xs:Array a}{p:Nat}{x y:a}(hp:p<=xs.size):y∈(insertAt xs p x).toList↔y=x\/y∈xs.toList:=by
 constructor
 ·intro h
  obtain⟨i,hi,e⟩:=List.mem_iff_getElem.mp h;have e2:(insertAt xs p x)[i]?=some y:=by rw[<-AD,Ao hi,e]
  rw[fi _ _ _ hp] at e2
  by_cases h1:i<p
  ·rw[if_pos h1,<-AD] at e2;exact .inr (Az e2)
  ·rw[if_neg h1] at e2
   by_cases h2:i=p
   ·rw[if_pos h2] at e2;exact .inl (As e2).symm
   ·rw[if_neg h2,<-AD] at e2;exact .inr (Az e2)
 ·rintro(rfl|h)
  ·refine Az (i:=p) ?_
   rw[AD,fi _ _ _ hp,if_neg (Nat.lt_irrefl _),if_pos rfl]
  ·obtain⟨i,hi,e⟩:=List.mem_iff_getElem.mp h
   have e2:xs[i]?=some y:=by rw[<-AD,Ao hi,e]
   by_cases h1:i<p
   ·refine Az (i:=i) ?_
    rw[AD,fi _ _ _ hp,if_pos h1];exact e2
   ·refine Az (i:=i+1) ?_
    rw[AD,fi _ _ _ hp,if_neg ω,if_neg ω,Nat.add_sub_cancel];exact e2
def E6{B:List Addr}{S:Addr}{o:Obj}{es:Array (Int×Value)}{ep:Nat}{t:SetTable}{ks:List (List K)}(X:TS knd s.heap S o es ep t ks B)(hu:A.units<cLine)(hv:∀k v n,knd.is k v=true->hashByValue n v=pure true){k:List K}{b:Addr}(hk:AZ knd s.heap k b)(me:b∈B)(hn:ks.length<60){Q:Bool->Shared->Prop}(h:∀(r:Bool) h' o' es' db t',TS knd h' S o' es' db t' (if k∈ks then ks else ks++[k]) B->A4 S s.heap h'->Q r {s with heap:=h'}):wpAny (model prog w) A (setAddHashed S (.ref b) (AC knd k)) Q E s:=by
 unfold setAddHashed;refine A0 ?_;have T:=X.tb;have cI:=fits_of T;have X':TS knd s.heap S o es ep t ks B:=X;unfold setAddHashedIn;refine Aa (wpAny_setState_of (s:=s) X.at_ X.dt cI ?_);dsimp only;have nb:byScan (.ref b) es=false:=rfl;rw[nb];simp only[Ai,if_false];obtain⟨ne,G,he,hm⟩:=yg T (AC knd k);refine Aa ?_;unfold setSearch;refine E3 (s:=s) X' hu hk G he hm (fun P r0 _=>?_) (fun cq=>?_) 100000 0 none ?_ (AW _) rfl (fun m i c dW=>absurd dW (Nat.not_lt_zero _))
 ·dsimp only
  refine Ad (h false s.heap o es ep t ?_ (Heap.SameBut.refl ..));rw[if_pos P];exact X
 ·dsimp only
  refine Aa (wpAny_setState_of (s:=s) X.at_ X.dt cI ?_);dsimp only;have cE:(es.map (·.1)).size+1<=t.mask:=by
   rw[A3];rcases X.msk with ⟨a,b⟩|⟨a,b⟩|⟨a,b⟩|⟨a,b⟩|⟨a,b⟩|⟨a,b⟩<;>omega
  obtain⟨p1,p2,p3⟩:=yh T he hm cE;rw[A3] at p1;obtain⟨j,p,cT⟩:∃j p,t.put (pos t.mask (AC knd k) ne)=(j,p):=⟨_,_,rfl⟩;rw[cT] at p1 p2 p3 ⊢;dsimp only at p1 p2 p3 ⊢;have Z:k∉ks:=cq;have F:(insertAt es p (AC knd k,Value.ref b)).size=es.size+1:=k7 _ _ _ p1;have H:=X.sz;have dU:es.size<60:=ω
  have I:∀d:SetTable,Tb d (insertAt (es.map (·.1)) p (AC knd k))->d.mask=t.mask->wpAny (model prog w) A (storeSet S (insertAt es p (AC knd k,Value.ref b)) d)
    (fun _ s'=>∃h',s'={s with heap:=h'}/\h'.get? S=some {o with data:=.set (insertAt es p (AC knd k,Value.ref b)) (ep+1) d}/\A4 S s.heap h') E s:=fun d T2 m2=>
   wpAny_storeSet_of (s:=s) X.at_ X.dt ⟨_,rfl,nO X.at_ X.dt,A6 ..⟩ (by rw[F,sizeLine_eq];omega)
  have J:(insertAt es p (AC knd k,Value.ref b)).map (·.1)=insertAt (es.map (·.1)) p (AC knd k):=ins_map (·.1) es p _ p1;have iF:(ks++[k]).Nodup:=by
   rw[List.nodup_append];refine⟨X.nd,by simp,fun x hx y hy=>?_⟩;rw[List.mem_singleton.mp hy];exact fun z=>Z (z▸hx)
  have L:∀h',A4 S s.heap h'->∀e∈(insertAt es p (AC knd k,Value.ref b)).toList,∃D u,D∈ks++[k]/\e=(AC knd D,Value.ref u)/\AZ knd h' D u:=fun h' g e he=>by
   rcases(ins_mem p1).mp he with rfl|he
   ·exact⟨k,b,by simp,rfl,iQ hk X.at_ X.dt g⟩
   ·obtain⟨D,u,W,Y,a3⟩:=X.el e he
    exact⟨D,u,A9 _ W,Y,iQ a3 X.at_ X.dt g⟩
  have M:∀h',A4 S s.heap h'->∀D∈ks++[k],∃u,(AC knd D,Value.ref u)∈(insertAt es p (AC knd k,Value.ref b)).toList/\AZ knd h' D u:=fun h' g D hk'=>by
   rcases List.mem_append.mp hk' with hk'|hk'
   ·obtain⟨u,W,Y⟩:=X.ke D hk'
    exact⟨u,(ins_mem p1).mpr (.inr W),iQ Y X.at_ X.dt g⟩
   ·rw[List.mem_singleton.mp hk']
    exact⟨b,(ins_mem p1).mpr (.inl rfl),iQ hk X.at_ X.dt g⟩
  have N:∀e∈(insertAt es p (AC knd k,Value.ref b)).toList,∃u∈B,e.2=Value.ref u:=fun e he=>by
   rcases(ins_mem p1).mp he with rfl|he
   ·exact⟨b,me,rfl⟩
   ·exact X.ad e he
  have C:∀(d:SetTable)(h':Heap),Tb d (insertAt (es.map (·.1)) p (AC knd k))->d.mask=t.mask->(w.params.followText "set-order"=true\/(d.led=true/\d.plain=true))->h'.get? S=some {o with data:=.set (insertAt es p (AC knd k,Value.ref b)) (ep+1) d}->A4 S s.heap h'->
    wpAny (model prog w) A (if(!false&&d.tooFull)=true then(setRelay S (SetTable.grown (es.size+1)) >>= fun _=>pure true) else pure true) Q E {s with heap:=h'}:=fun d h' T2 m2 pI hg g=>by
   have T2':Tb d ((insertAt es p (AC knd k,Value.ref b)).map (·.1)):=by rw[J];exact T2
   have fl:d.fill=es.size+1:=by
    unfold SetTable.fill;rw[T2'.dum,T2'.size,A3,F]
    rfl
   have tf:d.tooFull=decide ((es.size+1)*5 ≥ t.mask*3):=by unfold SetTable.tooFull;rw[fl,m2]
   have lk:es.size+1=(ks++[k]).length:=by rw[Aq,H];rfl
   have stay:((es.size+1)*5<t.mask*3)->((d.mask=7/\es.size+1<=4)\/(d.mask=31/\es.size+1<=18)\/(d.mask=127/\es.size+1<=76)\/(d.mask=15/\es.size+1<=8)\/(d.mask=63/\es.size+1<=37)\/(d.mask=255/\es.size+1<=152))->wpAny (model prog w) A (if(!false&&d.tooFull)=true then(setRelay S (SetTable.grown (es.size+1)) >>= fun _=>pure true) else pure true) Q E {s with heap:=h'}:=fun q mk=>by
    rw[tf,decide_eq_false ω];simp only[Bd,Ai,if_false];refine Ad (h true h' {o with data:=.set (insertAt es p (AC knd k,Value.ref b)) (ep+1) d} (insertAt es p (AC knd k,Value.ref b)) (ep+1) d ?_ g);rw[if_neg Z];exact⟨hg,X.ex,rfl,T2',by rw[F];exact lk,iF,L h' g,M h' g,by rw[F];exact mk,N,pI⟩
   have f:∀l n,es.size+1=n->((es.size+1)*5 ≥ t.mask*3)->SetTable.sizeAbove (SetTable.grown n)-1=l->SetTable.sizeAbove (SetTable.grown n)<=1000->eZ l->l%2=1->es.size+1<=l->((l=7/\es.size+1<=4)\/(l=31/\es.size+1<=18)\/(l=127/\es.size+1<=76)\/(l=15/\es.size+1<=8)\/(l=63/\es.size+1<=37)\/(l=255/\es.size+1<=152))->
     wpAny (model prog w) A (if(!false&&d.tooFull)=true then(setRelay S (SetTable.grown (es.size+1)) >>= fun _=>pure true) else pure true) Q E {s with heap:=h'}:=fun l n en q w1 w2 c1 c2 c3 mk=>by
    rw[tf,decide_eq_true q];simp only[Bool.not_false,Bool.and_self,if_true];subst en;refine Aa (E5 (s:={s with heap:=h'}) (ks:=ks++[k]) hg X.ex rfl T2' (by rw[F];exact lk) iF N (L h' g) (M h' g) w1 (by rw[sizeLine_eq];omega) c1 c2 (by rw[F];exact c3) (by rw[F];omega) (by rw[F];exact mk) pI fun nz qq lf kU uF tJ nj=>?_);refine Ad (h true nz qq lf kU uF ?_ (g.trans nj));rw[if_neg Z];exact tJ
   rcases X.msk with ⟨a,c⟩|⟨a,c⟩|⟨a,c⟩|⟨a,c⟩|⟨a,c⟩|⟨a,c⟩
   ·by_cases q:es.size+1<=4
    ·exact stay ω (.inl ⟨ω,q⟩)
    ·exact f 31 5 ω ω δ δ hG rfl ω (.inr (.inl ⟨rfl,ω⟩))
   ·by_cases q:es.size+1<=18
    ·exact stay ω (.inr (.inl ⟨ω,q⟩))
    ·exact f 127 19 ω ω δ δ iL rfl ω (.inr (.inr (.inl ⟨rfl,ω⟩)))
   ·exact stay ω (.inr (.inr (.inl ⟨ω,ω⟩)))
   ·by_cases q:es.size+1<=8
    ·exact stay ω (.inr (.inr (.inr (.inl ⟨ω,q⟩))))
    ·exact f 63 9 ω ω δ δ lg rfl ω (.inr (.inr (.inr (.inr (.inl ⟨rfl,ω⟩)))))
   ·by_cases q:es.size+1<=37
    ·exact stay ω (.inr (.inr (.inr (.inr (.inl ⟨ω,q⟩)))))
    ·exact f 255 38 ω ω δ δ iK rfl ω (.inr (.inr (.inr (.inr (.inr ⟨rfl,ω⟩)))))
   ·exact stay ω (.inr (.inr (.inr (.inr (.inr ⟨ω,ω⟩)))))
  have O:w.params.followText "set-order"=true\/(j.led=true/\j.plain=true):=by
   have e1:j=(t.put (pos t.mask (AC knd k) ne)).1:=by rw[cT]
   have e2:j.led=t.led:=by rw[e1];rfl
   have e3:j.plain=t.plain:=by rw[e1];rfl
   rw[e2,e3];exact X.wk
  cases hpl:j.plain with
  |true=>
   simp only[if_true];refine Aa (E4 (s:=s) hv hk ?_);simp only[if_true];refine Aa (Bb (I j p3 p2) (fun _ s' U=>?_) fun _ _ e=>e);obtain⟨h',rfl,g1,g2⟩:=U;exact C j h' p3 p2 O g1 g2
  |false=>
   simp only[Ai,if_false];refine Aa (Ad ?_);simp only[if_true];refine Aa (Bb (I j p3 p2) (fun _ s' U=>?_) fun _ _ e=>e);obtain⟨h',rfl,g1,g2⟩:=U;exact C j h' p3 p2 O g1 g2
 ·have:t.mask<=255:=by rcases X.msk with ⟨a,_⟩|⟨a,_⟩|⟨a,_⟩|⟨a,_⟩|⟨a,_⟩|⟨a,_⟩<;>omega
  unfold turns at G;omega
def E7{B:List Addr}{S:Addr}{o:Obj}{es:Array (Int×Value)}{ep:Nat}{t:SetTable}{ks:List (List K)}(X:TS knd s.heap S o es ep t ks B)(hu:A.units<cLine)(a:∀k v n,knd.is k v=true->hashByValue n v=pure true){k:List K}{b:Addr}(hk:AZ knd s.heap k b)(c:b∈B)(d:ks.length<60){Q:Bool->Shared->Prop}(h:∀(r:Bool) h' o' es' db t',TS knd h' S o' es' db t' (if k∈ks then ks else ks++[k]) B->A4 S s.heap h'->Q r {s with heap:=h',toks:=s.toks+(k.length+1)}):wpAny (model prog w) A (setAdd S (.ref b)) Q E s:=by
 unfold setAdd;exact A0 (Aa (wpAny_pyHash_tuple hu hk (E6 (s:={s with toks:=s.toks+(k.length+1)}) X hu a hk c d h)))
end
end STb
end
section
namespace STb
def dd{a:Type}[DecidableEq a](l:List a):List a:=l.foldl (fun acc x=>if x∈acc then acc else acc++[x]) []
def jE{a:Type}[DecidableEq a](l:List a)(x:a):dd (l++[x])=if x∈dd l then dd l else dd l++[x]:=by unfold dd;rw[List.foldl_append];rfl
def gI{a:Type}[DecidableEq a](l:List a):(dd l).length<=l.length:=by
 have:∀(l acc:List a),(l.foldl (fun acc x=>if x∈acc then acc else acc++[x]) acc).length<=acc.length+l.length:=by
  intro l
  induction l with
  |nil=>intro acc;simp
  |cons x l ih=>
   intro acc;rw[List.foldl_cons];refine AA (ih _) ?_;split
   ·rw[Ap];omega
   ·rw[Aq,Ap,Ap,List.length_nil];omega
 simpa[dd] using this l []
def hU{a:Type}[DecidableEq a](l:List a)(x:a):x∈dd l↔x∈l:=by
 have:∀(l acc:List a),x∈(l.foldl (fun acc x=>if x∈acc then acc else acc++[x]) acc)↔x∈acc\/x∈l:=by
  intro l
  induction l with
  |nil=>intro acc;simp
  |cons y l ih=>
   intro acc;rw[List.foldl_cons,ih]
   by_cases h:y∈acc
   ·rw[if_pos h,List.mem_cons]
    constructor
    ·rintro(q|q)
     ·exact .inl q
     ·exact .inr (.inr q)
    ·rintro(q|q|q)
     ·exact .inl q
     ·subst q;exact .inl h
     ·exact .inr q
   ·rw[if_neg h,List.mem_append,List.mem_singleton,List.mem_cons]
    constructor
    ·rintro((q|q)|q)
     ·exact .inl q
     ·exact .inr (.inl q)
     ·exact .inr (.inr q)
    ·rintro(q|q|q)
     ·exact .inl (.inl q)
     ·exact .inl (.inr q)
     ·exact .inr q
 simpa[dd] using this l []
def tw{c:Type}[DecidableEq c](l:List c):(dd l).Nodup:=by
 have:∀(l acc:List c),acc.Nodup->(l.foldl (fun acc x=>if x∈acc then acc else acc++[x]) acc).Nodup:=by
  intro l
  induction l with
  |nil=>intro acc h;exact h
  |cons y l ih=>
   intro acc h;rw[List.foldl_cons]
   by_cases q:y∈acc
   ·rw[if_pos q];exact ih acc h
   ·rw[if_neg q]
    refine ih _ ?_;rw[List.nodup_append];refine⟨h,by simp,fun a d b hb e=>?_⟩;rw[List.mem_singleton] at hb;subst hb;subst e;exact q d
 exact this l [] List.nodup_nil
def E8{a:Type}[DecidableEq a](l m:List a):(dd (l++m)).length<=(dd l).length+m.length:=by
 have:∀(m acc:List a),(m.foldl (fun acc x=>if x∈acc then acc else acc++[x]) acc).length<=acc.length+m.length:=by
  intro m
  induction m with
  |nil=>intro acc;simp
  |cons x l ih=>
   intro acc;rw[List.foldl_cons];refine AA (ih _) ?_;split
   ·rw[Ap];omega
   ·rw[Aq,Ap,Ap,List.length_nil];omega
 unfold dd;rw[List.foldl_append];exact this m _
def E9{a:Type}[DecidableEq a](l:List a)(h:∀(k:Nat) x,l[k]?=some x->x∉l.take k):dd l=l:=by
 have:∀k,k<=l.length->dd (l.take k)=l.take k:=by
  intro k
  induction k with
  |zero=>intro _;rfl
  |succ k ih=>
   intro hk;have hx:l[k]?=some l[k]:=Ao ω;rw[List.take_add_one,hx];show dd (l.take k++[l[k]])=_;rw[jE,ih ω,if_neg (h k _ hx)]
   rfl
 have q:=this l.length (Ag _);rw[At (Ag _)] at q;exact q
def E_{a:Type}[DecidableEq a](l:List a){k:Nat}{x:a}(h:l[k]?=some x)(hx:x∈l.take k):(dd l).length<l.length:=by
 have hk:k<l.length:=(List.getElem?_eq_some_iff.mp h).1;have e:l=(l.take k++[x])++l.drop (k+1):=by
  have:=AX (k+1) l;rw[List.take_add_one,h] at this;exact this.symm
 have h1:=E8 (l.take k++[x]) (l.drop (k+1));rw[<-e,jE,if_pos ((hU _ _).mpr hx)] at h1;have h2:=gI (l.take k);rw[AI] at h2;rw[List.length_drop] at h1;omega
def E'{a:Type}[DecidableEq a](l:List a):(dd l).length<l.length↔∃(k:Nat)(x:a),l[k]?=some x/\x∈l.take k:=by
 constructor
 ·intro h
  apply Classical.byContradiction;intro n;have:=E9 l fun k x e hx=>n ⟨k,x,e,hx⟩;rw[this] at h;exact Nat.lt_irrefl _ h
 ·rintro⟨k,x,e,hx⟩
  exact E_ l e hx
end STb
end
section
set_option maxHeartbeats 3200000
namespace STb
open PySem PySem.SetTable PyProof.Rows
section
variable{prog:Program}{w:World}{K:Type}[DecidableEq K]{knd:KeyKind prog w K}{A:Around}{R:Result->Shared->Prop}{I:Addr}{fp wr:List Addr}{G:Array GenState->Array GenState->Prop}{n:Nat}{P:Nat->Value->Prop}{St:Nat->Shared->Prop}
def TS.moved{B:List Addr}{h h':Heap}{S:Addr}{o:Obj}{es:Array (Int×Value)}{ep:Nat}{t:SetTable}{ks:List (List K)}(X:TS knd h S o es ep t ks B)(a:h'.get? S=some o)(hk:∀k b,AZ knd h k b->AZ knd h' k b):TS knd h' S o es ep t ks B:=
 ⟨a,X.ex,X.dt,X.tb,X.sz,X.nd,fun e he=>let ⟨k,b,a1,a2,a3⟩:=X.el e he;⟨k,b,a1,a2,hk k b a3⟩,fun k hk'=>let ⟨b,a1,a2⟩:=X.ke k hk';⟨b,a1,hk k b a2⟩,X.msk,X.ad,X.wk⟩
def Fb{h h':Heap}{k:List K}{b:Addr}(hk:AZ knd h k b)(e:∀o,h.get? b=some o->h'.get? b=some o):AZ knd h' k b:=by
 obtain⟨o,a,n,c,r⟩:=hk;exact⟨o,a,n,e o c,r⟩
def Fc{B:List Addr}(W:WalksS prog w A.in1 I fp wr G n P St)(hu:A.in1.units<cLine)(hv:∀k v n,knd.is k v=true->hashByValue n v=pure true)(S:Addr)(l:S∉fp)(vals:List (List K))(adr:Nat->Addr)(hn:vals.length=n)(hB:∀i,i<n->adr i∈B)(hz:n<=59)(p:∀i v,P i v->v=.ref (adr i))(hna:∀b o,(∃u m,o.cls=Value.type "tuple"/\o.data=.seq u m)->∀s i,St i s->s.heap.get? b=some o->b∉wr):∀(k i:Nat)(s:Shared),n-i=k->i<=n->St i s->(∃o es ep t,TS knd s.heap S o es ep t (dd (vals.take i)) B)->(∀(j:Nat)(x:List K),vals[j]?=some x->AZ knd s.heap x (adr j))->
   (∀s',Moved (S::wr) G s s'->(∃o es ep t,TS knd s'.heap S o es ep t (dd vals) B)->R (.ok (.ret .none)) s')->codeAny (model prog w) A (.builtin "set.update.loop" ⟨[.ref S,.ref I],[]⟩) R s:=by
 have f:S∉wr:=fun h=>l (W.sub _ h);have L:∀b∈wr,b∈S::wr:=fun b hb=>An _ hb;have dl:∀{i:Nat}{s s':Shared}{x:List K}{b:Addr},St i s->Moved wr G s s'->AZ knd s.heap x b->AZ knd s'.heap x b:=fun{i s s' x b} a hm hk=>by
  obtain⟨o,u,m,J,hc,hd,hi⟩:=id hk;exact⟨o,u,m,hm.heap b o (hna b o ⟨u,m,hc,hd⟩ s i a J) J,hc,hd,hi⟩
 intro k
 induction k with
 |zero=>
  intro i s hk hi a z C hR;have E:i=n:=ω
  subst E;refine codeAny_builtin F.entry_set_update_loop ?_;rw[Around.under_plainId F.plain_set_update_loop _];show wpAny _ A.in1 (pyNext (.ref I) >>= _) _ _ s;refine Aa (W.done s _ _ a fun s' hm=>?_);show wpAny _ A.in1 (ret Value.none) _ _ s';refine Ad (hR s' (hm.mono L) ?_);obtain⟨o,es,ep,t,X⟩:=z;rw[At ω] at X;exact⟨o,es,ep,t,X.moved (hm.heap S _ f X.at_) fun k b hk=>dl a hm hk⟩
 |succ k ih=>
  intro i s hk hi a z C hR;have c:i<n:=ω
  refine codeAny_builtin F.entry_set_update_loop ?_;rw[Around.under_plainId F.plain_set_update_loop _];show wpAny _ A.in1 (pyNext (.ref I) >>= _) _ _ s;refine Aa (W.item i s _ _ c a fun v s' N O hm=>?_);obtain rfl:=p i v N;obtain⟨o,es,ep,t,X⟩:=z;have X':TS knd s'.heap S o es ep t (dd (vals.take i)) B:=X.moved (hm.heap S _ f X.at_) fun k b hk=>dl a hm hk;have hx:vals[i]?=some vals[i]:=Ao ω;have g:=gI (vals.take i);rw[AI] at g;show wpAny _ A.in1 (holding [Value.ref (adr i)] (setAdd S (.ref (adr i))) >>= _) _ _ s';refine Aa (A0 (E7 X' hu hv (dl a hm (C i _ hx)) (hB i c) ω fun r h' o' es' H t' y D=>?_));have M:s'.toks<=s'.toks+(vals[i].length+1):=Nat.le_add_right _ _;have a_:St (i+1) {s' with heap:=h',toks:=s'.toks+(vals[i].length+1)}:=W.frame _ s' _ _ O M fun b hb Q e=>by
   rw[D.2 b (fun h:b=S=>l (by rw[<-h];exact hb))];exact e
  have d:vals.take (i+1)=vals.take i++[vals[i]]:=by rw[List.take_add_one,hx];rfl
  have X3:TS knd h' S o' es' H t' (dd (vals.take (i+1))) B:=by
   rw[d,jE]
   by_cases q:vals[i]∈dd (vals.take i)
   ·rw[if_pos q] at y ⊢;exact y
   ·rw[if_neg q] at y ⊢;exact y
  refine Ad ⟨plainId_quiet F.plain_set_update_loop _,ih (i+1) _ ω c a_ ⟨o',es',H,t',X3⟩ (fun j x T=>iQ (dl a hm (C j x T)) X'.at_ X'.dt D) fun U Y Z=>?_⟩;refine hR U (Moved.trans W.gtrans ((hm.mono L).then_heap M fun b Q hb e=>?_) Y) Z;rw[D.2 b (fun h:b=S=>hb (by rw[h];exact Aj))];exact e
end
end STb
end
section
namespace STb
open PySem PySem.SetTable PyProof.Rows
section
variable{prog:Program}{w:World}{K:Type}[DecidableEq K]{knd:KeyKind prog w K}{A:Around}{E:Ω}{s:Shared}
def ym(a:Value){Q₁:Ω}(h:Q₁ (.ref s⁻¹) {s with heap:=s.heap.push {cls:=.type "set",dict:=none,data:=.set #[] 0 (.fresh 0 0 (!w.params.followText "set-order"))}}):codeAny (model prog w) A (.call (.builtin "set.__new__") ⟨[.type "set",a],[]⟩) (wants Q₁ E) s:=by
 refine codeAny_of_tree (show wpAny _ A.in1 (do checkBuiltinCall "set.__new__" ⟨[.type "set",a],[]⟩;again (.builtin "set.__new__" ⟨[.type "set",a],[]⟩)) _ _ s from Aa (wpAny_of_eq (F.newCall_set_1 a) (Ad ⟨plainId_quiet F.plain_set_new _,codeAny_builtin F.entry_set_new ?_⟩)));rw[Around.under_plainId F.plain_set_new _];unfold Builtin.«set.__new__» Builtin.Frozenset.newClass;have c:=sub_set_self;obtain⟨hp,g,d,tk,os⟩:=s;dsimp only;wp_walk;refine wpAny_askSetting (Ad ?_);dsimp only;simp only[newObj];exact Aa (wpAny_alloc (Ad (Ad h)))
def Fd{B:List Addr}{l:Addr}{a:Array Value}{vals:List (List K)}{adr:Nat->Addr}{Q:Ω}(hh:A.handled=none)(hl:s.heap.IsList l a)(hu:A.units+64<cLine)(hv:∀k v n,knd.is k v=true->hashByValue n v=pure true)(hz:a.size<=59)(hn:vals.length=a.size)(hB:∀i,i<a.size->adr i∈B)(aS:∀(i:Nat) v,a[i]?=some v->v=.ref (adr i))(hT:∀(j:Nat) x,vals[j]?=some x->AZ knd s.heap x (adr j))(h:∀h' tk,(∃o es ep t,TS knd h' s⁻¹ o es ep t (dd vals) B)->(∀b o,b<s⁻¹->s.heap.get? b=some o->h'.get? b=some o)->Q (.ref s⁻¹) {s with heap:=h',toks:=tk}):wpAny (model prog w) A (call (.type "set") [.ref l]) Q E s:=by
 obtain⟨c,tl,mJ⟩:=F.called_set.mro;have iX:=F.called_set.made;have bB:=F.called_set.sub;refine wpAny_call (codeAny_of_tree ?_);show wpAny _ _ (callAny (.type "set") _) _ _ _;refine Ad ⟨Code.quiet_builtin _ δ,codeAny_builtin F.entry_type_call ?_⟩;rw[Around.under_plain (weight_type_call_type "set" [.ref l] []) rfl];have h1:=F.called_set.notType;have h2:=F.called_set.canCreate;have pE:=F.typeCall_set_1 (.ref l)
 repeat(any_goals(first|assumption|wp_step))
 refine codeAny_mono (ym (.ref l) (E:=E) (Q₁:=fun obj G=>∃led:Bool,(w.params.followText "set-order"=true\/led=true)/\obj=.ref s⁻¹/\G={s with heap:=s.heap.push {cls:=.type "set",dict:=none,data:=.set #[] 0 (.fresh 0 0 led)}}) ⟨_,by cases w.params.followText "set-order" <;> simp,rfl,rfl⟩) fun r G hr=>?_;cases r with
 |error e=>exact hr
 |ok fl=>
  cases fl with
  |ret obj=>
   obtain⟨led,S,rfl,rfl⟩:=hr;have M:(s.heap.push {cls:=.type "set",dict:=none,data:=.set #[] 0 (.fresh 0 0 led)}).get? s⁻¹=some {cls:=.type "set",dict:=none,data:=.set #[] 0 (.fresh 0 0 led)}:=Av _ rfl;have Z:Shared.TypeIs {s with heap:=s.heap.push {cls:=.type "set",dict:=none,data:=.set #[] 0 (.fresh 0 0 led)}} (.ref s⁻¹) "set":=⟨_,M,rfl⟩;have uJ:=F.called_set.init.lookup;have uh:=F.called_set.init.bind (.ref s⁻¹)
   repeat(any_goals(first|assumption|wp_step))
   refine codeAny_mono (codeAny_call_builtin (R:=wants (fun r H=>r=.none/\∃h' tk,H={s with heap:=h',toks:=tk}/\
     (∃o es ep t,TS knd h' s⁻¹ o es ep t (dd vals) B)/\
     (∀b o,b<s⁻¹->s.heap.get? b=some o->h'.get? b=some o)) E) F.called_set.init.plain F.entry_set_init (check_set_init_1 Z ?_)) fun O H u=>?_
   ·obtain⟨T,I,d,J,L⟩:=hl
    obtain⟨mX,U,i3,W⟩:=T;simp only at d L;subst d;subst L;have fu:(s.heap.push {cls:=.type "set",dict:=none,data:=.set #[] 0 (.fresh 0 0 led)}).get? l=some {cls:=.type "list",dict:=U,data:=.seq a J,slots:=W}:=Ac _ I;have mP:=F.sub_list_set;have kH:=F.sub_list_frozenset;have hne:(Value.type "list" == Value.type "dict")=false:=ξ
    have f:(s.heap.push {cls:=.type "set",dict:=none,data:=.set #[] 0 (.fresh 0 0 led)}).IsList l a:=⟨_,fu,rfl,J,rfl⟩;unfold Builtin.«set.__init__» noKeywords Builtin.Frozenset.updateFrom;generalize hPI:pyIter=PI
    wp_walk
    subst hPI;refine wpAny_pyIter_list f ?_;refine Aa (wpAny_runValue ?_);have N:l<s⁻¹:=Ah I;have ld:A.in1.in1.in1.handled=none:=by simp[hh]
    have g:l≠(s.heap.push {cls:=.type "set",dict:=none,data:=.set #[] 0 (.fresh 0 0 led)}).objs.size:=by
     rw[Bi];exact Al (AF N)
    have C:s⁻¹∉[(s.heap.push {cls:=.type "set",dict:=none,data:=.set #[] 0 (.fresh 0 0 led)}).objs.size,l]:=by
     rw[Bi];simp only[List.mem_cons,List.mem_singleton,List.not_mem_nil,or_false,not_or];exact⟨Al (Nat.lt_succ_self _),Nat.ne_of_gt N⟩
    refine Fc (knd:=knd) ((Walks.list ld _ l g a).toS) (by show A.units+1+1+1<cLine;omega) hv s⁻¹ C vals adr hn hB hz (fun i v q=>aS i v q) (fun b o P s' i st e hb=>?hna)
     (a.size-0) 0 _ ω (AW _) ⟨⟨_,Av _ rfl,rfl,rfl⟩,(f.push _)⟩ ⟨{cls:=.type "set",dict:=none,data:=.set #[] 0 (.fresh 0 0 led)},#[],0,.fresh 0 0 led,?hS0⟩ (fun j x hx=>Fb (hT j x hx) fun o e=>Ac _ (Ac _ e)) ?hR
    case hna=>
     obtain⟨⟨oi,e1,e2,_⟩,_⟩:=st;obtain⟨ag,m,hc,_⟩:=P;simp only[List.mem_singleton] at hb;subst hb;have e3:=As (e1.symm.trans e);rw[<-e3,e2] at hc;exact absurd hc ξ
    case hS0=>
     have p:((s.heap.push {cls:=.type "set",dict:=none,data:=.set #[] 0 (.fresh 0 0 led)}).push {cls:=.type "list_iterator",data:=.fields #[.ref l,.int 0 0]}).get? s⁻¹
      =some {cls:=.type "set",dict:=none,data:=.set #[] 0 (.fresh 0 0 led)}:=Ac _ M
     exact⟨p,⟨rfl,rfl,rfl⟩,rfl,(by simpa using yi 0 0 led),rfl,List.nodup_nil,fun e he=>by simp at he,fun k hk=>by simp[dd] at hk,.inl ⟨rfl,AW _⟩,(fun e he=>by simp at he),S.imp id fun z=>⟨z,rfl⟩⟩
    case hR=>
     intro s' hm y;obtain⟨h',g',d',X,Y⟩:=s';have eg:g'=s.gens:=hm.gens;have ed:d'=s.drawn:=hm.drawn;have eo:Y=s.os:=hm.os;subst eg;subst ed;subst eo;show wpAny _ _ _ _ _ _;refine Ad ?_;show wpAny _ _ (ret Value.none) _ _ _;refine Ad ⟨rfl,h',X,rfl,y,fun b o hb e=>?_⟩;have D:b≠s⁻¹:=Al hb;have eP:b≠(s.heap.push {cls:=.type "set",dict:=none,data:=.set #[] 0 (.fresh 0 0 led)}).objs.size:=by
      rw[Bi];exact Al (AF hb)
     exact hm.heap b o (by simp only[List.mem_cons,List.mem_singleton,List.not_mem_nil,or_false,not_or];exact⟨D,eP⟩) (Ac _ (Ac _ e))
   ·cases O with
    |error e=>exact u
    |ok fl₂=>
     cases fl₂ with
     |ret r=>
      obtain⟨rfl,h',tk,rfl,y,hk'⟩:=u
      repeat(any_goals(first|assumption|wp_step))
      exact h _ _ y hk'
     |_=>exact u.elim
  |_=>exact hr.elim
end
end STb
namespace L2
open PySem PySem.Spec PyProof.Rows
def fQ(D:Addr)(n:Nat):HO:=.ext fun h=>∃o es ep t,h.get? D=some o/\o.ExactSet/\o.data=.set es ep t/\t.fits es.size=true/\es.size=n/\n<=100
section
variable{X:Cx}
def Fe{prog:Program}{w:World}:∀(k:Int)(v:Value)(n:Nat),(intKind prog w).is k v=true->hashByValue n v=pure true:=by
 intro k v n h;obtain⟨t,rfl⟩:=Value.isInt_shape h;cases n<;>rfl
def Ff{prog:Program}{w:World}{h:Heap}{c:Addr}{cs:List Value}{a:List Int}(hc:IsTup h c cs.toArray)(hi:IntsAre cs a):AZ (intKind prog w) h a c:=by
 obtain⟨o,e,f,k,d⟩:=hc;refine⟨o,cs.toArray,k,e,f,d,?_⟩;have:∀{cs:List Value}{a:List Int},IntsAre cs a->ItemsAre (intKind prog w) a cs:=by
  intro cs a hi
  induction hi with
  |nil=>exact .nil
  |cons n t h ih=>exact .cons (by show Value.isInt n (.int n t)=true;simp[Value.isInt]) ih
 simpa using this hi
def Fh(hc:X.calm=true)(hu:X.A.units+64<cLine):dg X (.type "set") (fun xs H Q=>∃(l:Addr)(as:List Addr)(pss:Ξ),xs=[.ref l]/\SqL X.K H l (as.map V.ref)/\Tps H as pss/\pss.length<=59/\
  ∀D,H D=none->Q (.ref D) (upd H D (fQ D (STb.dd pss).length))):=by
 intro aa s σ H xs us Q I r h;obtain⟨l,as,pss,rfl,hq,hp,L,q⟩:=h;obtain⟨u,rfl,z⟩:=vals1 r;cases z;obtain⟨C,E,p1,_⟩:=I.list hq;obtain rfl:=bw E;have G:=hp.length;refine STb.Fd (B:=as) (knd:=intKind X.prog X.w) (vals:=pss) (adr:=fun i=>as.getD i 0) (I.ok.hd hc) p1.isList hu Fe (by rw[Am,Ab];omega) (by rw[Am,Ab];omega) (fun i hi=>by rw[Am,Ab] at hi;rw[List.getD_eq_getElem?_getD,Ao hi];exact List.getElem_mem hi)
  (fun i v e=>?_) (fun j x e=>?_) fun h' tk ⟨o,es,ep,t,T⟩ g=>?_
 ·have d:(as.map Value.ref)[i]?=some v:=by simpa using e
  rw[Ar] at d;cases c:as[i]? with
  |none=>rw[c] at d;simp at d
  |some a=>
   rw[c] at d;rw[<-As d,List.getD_eq_getElem?_getD,c]
   rfl
 ·have J:j<as.length:=by rw[G];exact(List.getElem?_eq_some_iff.mp e).1
  have c:as[j]?=some as[j]:=Ao J;obtain⟨M,e1,e2⟩:=hp.get c;rw[e] at e1;obtain rfl:=As e1;obtain⟨C,F,p2,_⟩:=I.tuple (SqT.of (K:=X.K) e2);rw[List.getD_eq_getElem?_getD,c];exact Ff p2 (intsAre_of F)
 ·have f:=STb.gI pss
  refine⟨.ref s⁻¹,_,I.laid (o:=fQ s⁻¹ (STb.dd pss).length) (fun b u e=>g b u (Ah e) e) (Ag _) ?_,rfl,q _ (I.hok.fresh (Ag _))⟩;refine⟨⟨o,es,ep,t,T.at_,T.ex,T.dt,STb.fits_of T.tb,T.sz,ω⟩,⟨o,T.at_⟩,fun h1 h2 ⟨o',es',p,t',g1,g2⟩ y=>⟨o',es',p,t',y _ g1,g2⟩⟩
def Fj:dg X (.builtin "len") (fun xs H Q=>∃D n,xs=[.ref D]/\H D=some (fQ D n)/\Q (.int n) H):=by
 intro aa s σ H xs us Q I r h;obtain⟨D,n,rfl,hq,q⟩:=h;obtain⟨u,rfl,a⟩:=vals1 r;cases a;obtain⟨⟨o,es,ep,t,h1,h2,c,d,e,f⟩,_⟩:=(show zQ X.prog X.w H s.heap D (fQ D n) from I.hok D _ hq);exact call_len_set h1 h2 c d ω ⟨.int n,H,I.tok _,⟨_,by rw[e]⟩,q⟩
end
end L2
end
section
namespace Spl
open PySem PySem.Spec PySem.Builtin PySem.Builtin.Str PyProof.Rows
section
variable{prog:Program}{w:World}{A:Around}{E:Ω}{s:Shared}{x y:PySem.Str}{t u:Tok}{Q:Ω}
def split1(hy:(y.length==0)=false)(h:∀(l:List (PySem.Str×Tok)) k,l.map (·.1)=Aw x y->Q (.ref s⁻¹) {s with heap:=s.heap.push {cls:=.type "list",data:=.seq (strValues l).toArray},toks:=k})(hsz:x.length+2<=sizeLine):wpAny (model prog w) A (call (.builtin "str.split") [.str x t,.str y u]) Q E s:=by
 have a:(partsBetween x (occurrences x y 0 x.length (x.length+1)) y.length).length<=sizeLine:=by
  have e1:=StrLaws.occ_length_le x y 0 x.length (x.length+1);rw[length_partsBetween];omega
 cases h1:(decide (x.length<y.length)|| decide (strKind x<strKind y))
 ·cases hf:(occurrences x y 0 x.length (x.length+1)).isEmpty
  ·refine call_meets F.slot_str_split (typeIs_str _ _ _) F.entry_str_split (F.args_str_split_2 _ _) (meets_str_split_sep x y t u h1 hy hf ω a) ?_
   show wants Q E _ {s with toks:=_,heap:=s.heap.push {cls:=.type "list",data:=.seq (strsFrom s.toks (partsBetween x (occurrences x y 0 x.length (x.length+1)) y.length)).toArray}};rw[strsFrom_eq];exact h (numbered s.toks _) _ ((numbered_texts _ _).trans ((if_neg (ne_true_of_eq_false h1)).trans (if_neg (ne_true_of_eq_false hf))).symm)
  ·exact call_meets F.slot_str_split (typeIs_str _ _ _) F.entry_str_split (F.args_str_split_2 _ _) (meets_str_split_not_found x y t u h1 hy hf)
    (h [(x,t)] s.toks ((if_neg (ne_true_of_eq_false h1)).trans (if_pos hf)).symm)
 ·exact call_meets F.slot_str_split (typeIs_str _ _ _) F.entry_str_split (F.args_str_split_2 _ _) (meets_str_split_cannot_occur x y t u h1)
   (h [(x,t)] s.toks (if_pos h1).symm)
end
end Spl
namespace L2
open PySem PySem.Spec PyProof.Rows
section
variable{X:Cx}
def yn:∀(l:List (PySem.Str×Tok)),Vals ((l.map (·.1)).map V.str) (strValues l)
 |[]=>.nil
 |p::l=>.cons ⟨p.2,rfl⟩ (yn l)
def zmb:V->List V->Hp->VK->Prop:=fun x vs H Q=>∃z y,x=.str z/\vs=[.str y]/\(y.length==0)=false/\z.length+2<=sizeLine/\(Aw z y).length<=sizeLine/\∀D,H D=none->Q (.ref D) (upd H D (.lst ((Aw z y).map V.str)))
def iR:jp X "str.split" zmb:=by
 intro aa s σ H x vs v us Q I a c h;obtain⟨z,y,rfl,rfl,hy,d,f,q⟩:=h;obtain⟨t,rfl⟩:=a;obtain⟨u,rfl,g⟩:=c.one;obtain⟨t',rfl⟩:=g;refine Spl.split1 hy (fun l k e=>?_) d;refine⟨.ref s⁻¹,_,I.laid (t':=k) (o:=.lst ((Aw z y).map V.str)) (fun b i q=>Ac _ q) (Ag _) ?_,rfl,q _ (I.hok.fresh (Ag _))⟩;refine⟨by rw[Ab];exact f,strValues l,0,?_,Av _ rfl⟩;rw[<-e];exact yn l
def jF(x:PySem.Str):It:=⟨fun i _=>i<x.cps.size,fun i H v H'=>H'=H/\∃c,x.cps[i]?=some c/\v=.str ⟨#[c]⟩,fun i _=>i=x.cps.size⟩
def yo{P:Program}{w:World}{K:Ae}{tg:Expr}(x:PySem.Str)(it:Addr)(T:String)(q:["enumerate","zip","dict_itemiterator","dict_reverseitemiterator","odict_iterator","itertools.zip_longest","itertools.pairwise"].contains T=false)(t:Tok)(W:∀A':Around,A'.handled=none->Walks P w A' it [it] [it] x.cps.size (SignAt x) (fun i h=>h.IsStrIter it T x t i))(r:∀(A:Around)(i:Nat)(s:Shared)(Q:Ω)(E:Ω),s.heap.IsStrIter it T x t i->Q (.ref it) s->wpAny (model P w) A (pyIter (.ref it)) Q E s):Turn P w K tg (jF x) [it] it (fun i h=>h.IsStrIter it T x t i) where
 mem:=by simp
 obj:=fun i h st b hb=>by
  have e:b=it:=by simpa using hb
  subst e;obtain⟨o,e,c,d⟩:=st;exact⟨o,e,fun v z=>by rw[d] at z;cases z⟩
 keep:=fun i h h' st k=>by
  obtain⟨o,e,c⟩:=st;exact⟨o,k it (by simp) o e,c⟩
 item:=by
  intro X a hw f hc i aa s σ H E I hf st g;subst a hw f;obtain⟨f0,f1,f2,f3,f4,f5⟩:=hf it (by simp);refine(W X.A (I.ok.hd hc)).item i s _ _ g st fun v h' tk p l j=>?_;obtain⟨c,u,hx,rfl⟩:=p;have y:Inv X aa σ H {s with heap:=h',toks:=tk}:=I.turned (fun b o hb e=>j b o (by simpa using hb) e) f0 f1 f3 f4 f5;obtain⟨o,e1,e2,e3⟩:=id l;exact⟨_,rfl,mH (s:={s with heap:=h',toks:=tk}) e1 e2 e3 q ⟨.str ⟨#[c]⟩,H,y,⟨u,rfl⟩,⟨rfl,c,hx,rfl⟩,l,fun b hb=>(hf b hb).1⟩⟩
 done:=by
  intro X a hw f hc i aa s σ H E I hf st g;subst a hw f;obtain⟨f0,f1,f2,f3,f4,f5⟩:=hf it (by simp);have hi:i=x.cps.size:=g;subst hi;exact(W X.A (I.ok.hd hc)).done s _ _ st fun h' tk j=>⟨rfl,I.turned (fun b o hb e=>j b o (by simpa using hb) e) f0 f1 f3 f4 f5⟩
 self:=r
def tz(te:TE):TI:=fun σ H R=>te σ H fun v H1=>∃x,v=.str x/\R (jF x) H1
def tH{tg l:Expr}{tl:TE}(f:PE X l tl):PI X tg l (tz tl):=by
 intro aa s σ H R I h;refine bd (f aa s σ H _ I h) fun v a ⟨x,H1,I1,d,q1⟩=>?_;obtain⟨z,e,q⟩:=q1;subst e;obtain⟨t,rfl⟩:=d;have fin:∀(o:Obj),Inv X aa σ H1 {a with heap:=a.heap.push o}:=fun o=>I1.kept (t':=a.toks) fun b o e=>Ac _ e;have fp:∀b∈[a⁻¹],bD X aa H1 b:=fun b hb=>by
  have e:b=a⁻¹:=by simpa using hb
  subst e;exact I1.fpOk (Ag _) (I1.hok.fresh (Ag _))
 cases ha:z.cps.all (·<128)
 ·refine wpAny_pyIter_wide ha ?_
  exact⟨a⁻¹,[a⁻¹],_,_,H1,rfl,fin _,yo z _ "str_iterator" ξ t (fun g c=>Walks.strWide c _ z t) (fun A i s Q E st h=>wpAny_pyIter_striter_wide st h),⟨_,Av _ rfl,rfl,rfl⟩,fp,q⟩
 ·refine wpAny_pyIter_ascii ha ?_
  exact⟨a⁻¹,[a⁻¹],_,_,H1,rfl,fin _,yo z _ "str_ascii_iterator" ξ t (fun g c=>Walks.strAscii c _ z t) (fun A i s Q E st h=>wpAny_pyIter_striter_ascii st h),⟨_,Av _ rfl,rfl,rfl⟩,fp,q⟩
def tL{g:TG}{tc:TT}{te:TE}{σ:St}{H1:Hp}{Q:VK}{D:Addr}{x:PySem.Str}(a:Nat->St->List V->Hp->Prop)(h:a 0 σ [] (upd H1 D (.lst [])))(hs:∀i σ ys H c,x.cps[i]?=some c->i<x.cps.size->ys.length<=i->a i σ ys H->g (.str ⟨#[c]⟩) σ H fun d j=>tc d j fun b f=>if b=true then te d f (ew x.cps.size a D i d) else cC x.cps.size a i d f)(hd:∀σ ys H,a x.cps.size σ ys H->Q (.ref D) H):cw (jF x) g tc te σ H1 D Q:=by
 refine kQ x.cps.size a h (fun σ ys H p=>rfl) (fun i σ ys H hi p=>hi) (fun i σ ys H v H' hi hy p y=>?_) hd;obtain⟨e,c,hc,rfl⟩:=y;subst e;exact hs i σ ys _ c hc hi hy p
end
end L2
end
section
namespace K1
open STb
def subs(ps:List Int):Ξ:=ps.foldl (fun a x=>a++a.map (·++[x])) [[]]
def parts(ps:List Int):Ξ:=(subs ps).drop 1
def tN(ps:List Int)(x:Int):subs (ps++[x])=subs ps++(subs ps).map (·++[x]):=by unfold subs;rw[List.foldl_append];rfl
def nP(ps:List Int):(subs ps).length=2 ^ ps.length:=by
 have:∀(ps:List Int)(acc:Ξ),(ps.foldl (fun a x=>a++a.map (·++[x])) acc).length=acc.length*2 ^ ps.length:=by
  intro ps
  induction ps with
  |nil=>intro acc;simp
  |cons x ps ih=>
   intro acc;rw[List.foldl_cons,ih,Aq,Ab,Ap,Nat.pow_succ];rw[<-Nat.two_mul,Nat.mul_comm 2,Nat.mul_assoc,Nat.mul_comm 2]
 simpa[subs] using this ps [[]]
def tT(ps:List Int):∃t,subs ps=[]::t/\∀q∈t,q≠[]:=by
 have:∀(ps:List Int)(acc:Ξ),(∃t,acc=[]::t/\∀q∈t,q≠[])->∃t,ps.foldl (fun a x=>a++a.map (·++[x])) acc=[]::t/\∀q∈t,q≠[]:=by
  intro ps
  induction ps with
  |nil=>intro acc h;exact h
  |cons x ps ih=>
   rintro acc ⟨t,rfl,h⟩;rw[List.foldl_cons];refine ih _ ⟨t++([]::t).map (·++[x]),rfl,fun q hq=>?_⟩;rcases List.mem_append.mp hq with hq|hq
   ·exact h q hq
   ·obtain⟨r,_,rfl⟩:=List.mem_map.mp hq
    simp
 exact this ps [[]] ⟨[],rfl,fun q hq=>nomatch hq⟩
def Fm(ps:List Int):(subs ps).filter (fun q=>!decide (q=[]))=parts ps:=by
 obtain⟨t,e,h⟩:=tT ps;unfold parts;rw[e];show List.filter _ ([]::t)=t;rw[List.filter_cons,if_neg (by simp)];exact List.filter_eq_self.mpr fun q hq=>by simp[h q hq]
def iS(ps:List Int):(parts ps).length=2 ^ ps.length-1:=by unfold parts;rw[List.length_drop,nP]
def yp(ps:List Int):∀q∈subs ps,q.length<=ps.length:=by
 have:∀(ps:List Int)(acc:Ξ)(n:Nat),(∀q∈acc,q.length<=n)->∀q∈ps.foldl (fun a x=>a++a.map (·++[x])) acc,q.length<=n+ps.length:=by
  intro ps
  induction ps with
  |nil=>intro acc n h q hq;simpa using h q hq
  |cons x ps ih=>
   intro acc n h q hq;rw[List.foldl_cons] at hq;have:=ih _ (n+1) (fun r hr=>by
    rcases List.mem_append.mp hr with hr|hr
    ·exact Nat.le_succ_of_le (h r hr)
    ·obtain⟨u,hu,rfl⟩:=List.mem_map.mp hr
     rw[Aq];exact Nat.succ_le_succ (h u hu)) q hq
   rw[Ap];omega
 intro q hq;have:=this ps [[]] 0 (fun r hr=>by simp at hr;subst hr;exact Ag _) q hq;omega
def aX:List Int->Bool
 |a::b::r=>decide (a<b)&&aX (b::r)
 |_=>true
def yq:∀ps:List Int,((ps.zip (ps.drop 1)).map fun p=>decide (p.1<p.2)).all id=aX ps
 |[]=>rfl
 |[_]=>rfl
 |a::b::r=>by
  have:=yq (b::r);unfold aX;rw[<-this]
  rfl
def t1:∀ps:List Int,aX ps=true↔∀(i:Nat) a b,ps[i]?=some a->ps[i+1]?=some b->a<b
 |[]=>by simp[aX]
 |[x]=>by simp[aX]
 |x::y::r=>by
  unfold aX;rw[AE,decide_eq_true_eq,t1 (y::r)];constructor
  ·rintro⟨h1,h2⟩ i a b c hb
   cases i with
   |zero=>simp at c hb;subst c hb;exact h1
   |succ i=>exact h2 i a b (by simpa using c) (by simpa using hb)
  ·intro h
   exact⟨h 0 x y rfl rfl,fun i a b c hb=>h (i+1) a b (by simpa using c) (by simpa using hb)⟩
def yr(ps:List Int)(h:aX ps=true):∀(d i:Nat) a b,ps[i]?=some a->ps[i+d]?=some b->a<=b:=by
 intro d
 induction d with
 |zero=>intro i a b c hb;rw[Nat.add_zero,c] at hb;cases hb;exact Int.le_refl _
 |succ d ih=>
  intro i a b c hb;have e:i+(d+1)<ps.length:=(List.getElem?_eq_some_iff.mp hb).1;have hc:ps[i+d]?=some ps[i+d]:=Ao ω;have h1:=ih i a _ c hc;have h2:=(t1 ps).mp h (i+d) _ b hc hb;omega
def aE(ps:List Int):Bool:=decide (1<=ps.length)&&decide (ps.length<=5)&&!(decide (ps.headD 0<0))&&!(decide (99<ps.getLastD 0))&&aX ps
def zZ(ps:List Int):Bool:=decide (1<=ps.length)&&decide (ps.length<=5)&&ps.all (fun p=>decide (0<=p)&&decide (p<=99))&&aX ps
def t8(ps:List Int):aE ps=zZ ps:=by
 unfold aE zZ;cases ps with
 |nil=>rfl
 |cons x r=>
  by_cases hr:aX (x::r)=true
  ·rw[hr,Bool.and_true,Bool.and_true]
   by_cases e:(x::r).length<=5
   ·have e1:(x::r).getLastD 0=(x::r)[(x::r).length-1]:=by
     rw[List.getLastD_eq_getLast?,List.getLast?_eq_getElem?,Ao (by simp)];rfl
    have key:(!(decide ((x::r).headD 0<0))&&!(decide (99<(x::r).getLastD 0)))=(x::r).all (fun p=>decide (0<=p)&&decide (p<=99)):=by
     rw[Bool.eq_iff_iff];rw[AE,Bool.not_eq_true',Bool.not_eq_true',decide_eq_false_iff_not,decide_eq_false_iff_not,List.all_eq_true];constructor
     ·rintro⟨a,c⟩ p hp
      obtain⟨i,hi⟩:=List.mem_iff_getElem?.mp hp;have f:i<(x::r).length:=(List.getElem?_eq_some_iff.mp hi).1;have g1:=yr (x::r) hr i 0 x p rfl (by simpa using hi);have g2:=yr (x::r) hr ((x::r).length-1-i) i p ((x::r)[(x::r).length-1]) hi (by
       rw[show i+((x::r).length-1-i)=(x::r).length-1 from ω];exact Ao (by simp))
      rw[e1] at c;have d:¬x<0:=a;simp only[AE,decide_eq_true_eq];constructor<;>omega
     ·intro h
      have g1:=h x Aj;have g2:=h ((x::r)[(x::r).length-1]) (List.getElem_mem _);rw[e1];simp only[AE,decide_eq_true_eq] at g1 g2;constructor
      ·show ¬x<0;omega
      ·omega
    rw[<-key];simp only[Bool.and_assoc]
   ·rw[decide_eq_false e];simp
  ·have:aX (x::r)=false:=by simpa using hr
   rw[this,Bd,Bd]
def bv(pss:Ξ):Bool:=decide (pss.length<=20)&&pss.all aE&&!(decide ((dd pss).length<pss.length))&&decide ((dd (pss.flatMap parts)).length<=200)
def yt(pss:Ξ)(k:Nat):Prop:=∀(i:Nat) ps,i<k->pss[i]?=some ps->ps∉pss.take i/\zZ ps=true
def Fq(pss:Ξ)(h:pss.length<=20)(a:yt pss pss.length):bv pss=decide ((dd (pss.flatMap parts)).length<=200):=by
 unfold bv;have h1:pss.all aE=true:=List.all_eq_true.mpr fun ps hp=>by
  obtain⟨i,hi⟩:=List.mem_iff_getElem?.mp hp;rw[t8];exact(a i ps (List.getElem?_eq_some_iff.mp hi).1 hi).2
 have h2:¬(dd pss).length<pss.length:=fun z=>by
  obtain⟨k,x,e,hx⟩:=(E' pss).mp z;exact(a k x (List.getElem?_eq_some_iff.mp e).1 e).1 hx
 rw[decide_eq_true h,h1,decide_eq_false h2]
 rfl
def Fs(pss:Ξ)(h:¬pss.length<=20):bv pss=false:=by unfold bv;rw[decide_eq_false h];rfl
end K1
end
section
namespace L2
open PySem PySem.Spec PyProof.Rows
def eC(N N':List Str)(ap:List (Option Nat))(scope:Scope):Bool:=decide (ap.length=N'.length)&&(ap.zip N').all fun p=>match p.1 with
 |none=>true
 |some j=>decide (N[j]?=some p.2)&&decide (scope.names.lookup p.2=some .free)
def lj{N N':List Str}{ap:List (Option Nat)}{scope:Scope}(h:eC N N' ap scope=true):hF N N' ap scope:=by
 unfold eC at h;rw[AE,decide_eq_true_eq,List.all_eq_true] at h;refine⟨h.1,fun i j e=>?_⟩;have hi:i<ap.length:=(List.getElem?_eq_some_iff.mp e).1;have e2:N'[i]?=some N'[i]:=Ao (by rw[<-h.1];exact hi);have:=h.2 (some j,N'[i]) (List.mem_iff_getElem?.mpr ⟨i,by rw[bu.bK,e,e2];rfl⟩);simp only[AE,decide_eq_true_eq] at this;exact⟨N'[i],e2,this.1,this.2⟩
section
variable{X:Cx}{scope:Scope}{ap:List (Option Nat)}{tg iter aI:Expr}{aD:List Expr}{wi:TI}{g:TG}{tc:TT}{te:TE}{pos:Pos}
def zz(N N':List Str)(ap:List (Option Nat))(hi:PI X tg iter wi)(c:∀a C s₀ H₀ ex,PG (cxC X scope N' a C s₀ H₀ ex) tg g)(ht:∀a C s₀ H₀ ex,dh (cxC X scope N' a C s₀ H₀ ex) aD tc)(he:∀a C s₀ H₀ ex,PE (cxC X scope N' a C s₀ H₀ ex) aI te)(hc:X.calm=true:=by rfl)(hk:scope.kind=.function:=by rfl)(d:∀y∈scope.names,y.2≠.cell:=by decide +kernel)(e:∀y∈scope.names,y.2=.local->scope.names.lookup y.1=some .local:=by decide +kernel)(hfr:∀y∈scope.names,y.2=.free->X.env.kindOf y.1=some .cell\/X.env.kindOf y.1=some .free)(f:X.N=N:=by rfl)(h:eC N N' ap scope=true:=by decide +kernel)(hs:∀x,Be iter X.env x=pure x:=by intro _;rfl):PE X (.ListComp aI [⟨tg,iter,aD,0⟩] scope pos) (er wi ap g tc te):=
 Ei hc hk d e hfr (lj (by rw[f];exact h)) hi c ht he hs
end
def bP{env:Env}{scope:Scope}(h:scope.names.all (fun y=>decide (y.2≠.free))=true):∀y∈scope.names,y.2=.free->env.kindOf y.1=some .cell\/env.kindOf y.1=some .free:=fun y hy e=>
 absurd e (of_decide_eq_true (List.all_eq_true.mp h y hy))
def fz{env:Env}{scope:Scope}(a:Scope)(h:scope.names.all (fun y=>decide (y.2≠.free)|| decide (a.names.lookup y.1=some .cell)|| decide (a.names.lookup y.1=some .free))=true)(c:env.scope=a:=by rfl):∀y∈scope.names,y.2=.free->env.kindOf y.1=some .cell\/env.kindOf y.1=some .free:=fun y hy e=>by
 subst c;have:=List.all_eq_true.mp h y hy;simp only[Bool.or_eq_true,decide_eq_true_eq] at this;rcases this with (q|q)|q
 ·exact absurd e q
 ·exact .inl q
 ·exact .inr q
def cz(l:List Str)(h:l.Nodup:=by decide +kernel):l.Nodup:=h
def ll{te:TE}{σ:St}{H:Hp}{P:VK}{S:Hp->Prop}(h:te σ H P):bN σ H fun b a=>if b=true then te σ a P else S a:=by
 show if true=true then te σ H P else S H;rw[if_pos rfl];exact h
def cb{i:Nat}{v:V}{te:TE}{σ:St}{H:Hp}{P:St->VK}{S:St->Hp->Prop}(h:te (σ.set i (some v)) H (P (σ.set i (some v)))):cm i v σ H fun a d=>bN a d fun b c=>if b=true then te a c (P a) else S a c:=ll (S:=S (σ.set i (some v))) h
def zA{J:It}{g:TG}{tc:TT}{te:TE}{σ:St}{H1:Hp}{Q:VK}{D:Addr}(h:cw J g tc te σ H1 D Q):cw J g tc te σ H1 D Q:=h
def Paired.of_at{c d:Type}{R:c->d->Prop}:∀{l:List c}{m:List d},l.length=m.length->(∀(i:Nat) x y,l[i]?=some x->m[i]?=some y->R x y)->Paired R l m
 |[],[],_,_=>.nil
 |x::l,y::m,h,f=>.cons (f 0 x y rfl rfl) (Paired.of_at (by simpa using h) fun i a b h1 h2=>f (i+1) a b (by simpa using h1) (by simpa using h2))
 |[],_::_,h,_=>by simp at h
 |_::_,[],h,_=>by simp at h
end L2
end
section
namespace HT
open PySem PyProof.Rows
section
variable{prog:Program}{w:World}{A:Around}{E:Ω}{s:Shared}
def Fu{t c:Addr}{a:Array Value}{d e:Value}{lo hi:Option Int}{Q:Ω}(ht:IsTup s.heap t a)(hs:s.heap.IsSliceOf c d e .none)(l:IsPart d lo)(o:IsPart e hi)(hw:sIx a.size 0 lo=0/\sIx a.size a.size hi=a.size)(h:Q (.ref t) s):wpAny (model prog w) A (getItem (.ref t) (.ref c)) Q E s:=by
 obtain⟨os,f,g,p⟩:=id hs;have i:s.TypeIs (.ref c) "slice":=⟨os,f,g⟩;obtain⟨q,r,u,v,x⟩:=id ht;unfold getItem
 try with_reducible refine A0 ?_
 first|refine Aa (Ad ?_)|skip
 refine Aa (wpAny_sequenceKey ht.typeIs ξ ?_);refine Aa (wpAny_callSpecial?_slot (name:=Str.ofString "__getitem__") ht.typeIs PyProof.Rows.slot_tuple_getitem
  (Ba PyProof.Rows.slot_tuple_getitem ht.typeIs entry_tuple_getitem ?_ (args_tuple_getitem _ _)))
 show wpAny _ _ (Builtin.Tuple.tupleItemsOf (.ref t) >>= _) _ _ s;refine Aa (tupleItemsOf_ ht ?_);refine Aa (wpAny_typeOf i ?_);rw[if_pos ξ];refine Aa (wX hs l o ?_);have j:((((sIx a.size 0 lo:Nat):Int)==0&&(1:Int)==1&&(sIx a.size a.size hi-sIx a.size 0 lo)==a.size)=true):=by
  rw[hw.1,hw.2];simp
 show wpAny _ _ (if(((sIx a.size 0 lo:Nat):Int)==0&&(1:Int)==1&&(sIx a.size a.size hi-sIx a.size 0 lo)==a.size)=true then _ else _) _ _ s;rw[if_pos j];refine Aa ?_;unfold Builtin.Tuple.tupleIsExact;refine Aa (wpAny_typeOf ht.typeIs (Ad ?_));rw[if_pos ξ];refine Aa (wpAny_rule ?_);exact Ad ⟨_,rfl,Ad h⟩
end
end HT
namespace L2
open PySem PySem.Spec PyProof.Rows
section
variable{X:Cx}
def iU:V->Option Int->Option Int->Hp->VK->Prop:=fun x lo hi H Q=>∃a xs,x=.ref a/\H a=some (.tup xs)/\∀p H',Same H H'->H' p=some (.tup (b' xs lo hi))->Q (.ref p) H'
def yu:ky X iU:=by
 intro aa s σ H x v g i lo hi j Q I d hs e f h;obtain⟨a,xs,rfl,hx,q⟩:=h
 by_cases hw:HT.sIx xs.length 0 lo=0/\HT.sIx xs.length xs.length hi=xs.length
 ·cases d
  obtain⟨l,r,ht,o⟩:=I.tuple (SqT.of (K:=X.K) hx);have c:l.toArray.size=xs.length:=by rw[Am];exact r.length.symm
  refine⟨"tuple",_,PyProof.Rows.slot_tuple_getitem.lookup,ht.typeIs,HT.Fu ht hs e f (by rw[c];exact hw) ⟨.ref a,H,I,rfl,q a H (Same.refl H) ?_⟩⟩;rw[hx];unfold b';rw[hw.1,hw.2,List.drop_zero,Nat.sub_zero,At (Ag _)]
 ·exact wZ aa s σ H (.ref a) v g i lo hi j Q I d hs e f ⟨a,xs,rfl,SqT.of hx,hw,fun p hp=>q p _ (Same.new hp) am⟩
end
end L2
end
section
namespace K8
open K1
open PySem L2
def top(i:Nat):Stmt:=PySem.Challenge.pw_seamwright_k08_texts_refused.main.body.getD i (.Pass ⟨0,0,0,0⟩)
abbrev nQ:Stmt:=top 16
abbrev jG:Stmt:=top 17
abbrev eE:Stmt:=top 19
abbrev jI:Stmt:=top 20
abbrev sAll:Stmt:=top 21
abbrev nU:Stmt:=top 26
structure Bt(mg:Str->Option Value):Prop where
 len:mg "len"=none
 all:mg "all"=none
 zip:mg "zip"=none
 sorted:mg "sorted"=none
 set:mg "set"=none
 list:mg "list"=none
 tuple:mg "tuple"=none
 range:mg "range"=none
 enumerate:mg "enumerate"=none
 int:mg "int"=none
 isinstance:mg "isinstance"=none
 reversed:mg "reversed"=none
 bool:mg "bool"=none
def cP:Bh "len"=some (.builtin "len"):=δ
def nV:Bh "all"=some (.builtin "all"):=δ
def Fv:Bh "zip"=some (.type "zip"):=δ
def nY:Bh "sorted"=some (.builtin "sorted"):=δ
def yw:Bh "set"=some (.type "set"):=δ
def ue:Bh "list"=some (.type "list"):=δ
def lm:Bh "tuple"=some (.type "tuple"):=δ
def ul:Bh "int"=some (.type "int"):=δ
def yx:Bh "isinstance"=some (.builtin "isinstance"):=δ
def zd{n:Nat}(h:n<=100000):n<=sizeLine:=by rw[sizeLine_eq];omega
def fA{n:Nat}(h:n<=100000):n<sizeLine:=by rw[sizeLine_eq];omega
def Fx(x:Int)(r:List Int):atI ((x::r).map V.int) (-1)=some (.int ((x::r).getLastD 0)):=by
 obtain⟨q,z,e⟩:∃q z,x::r=q++[z]:=⟨(x::r).dropLast,(x::r).getLast (List.cons_ne_nil x r),(List.dropLast_concat_getLast (List.cons_ne_nil x r)).symm⟩;rw[e,Au,List.getLastD_eq_getLast?,List.getLast?_append];exact Dw _ _
def iV{ps:List Int}{i:Nat}{x:V}(h:(ps.map V.int)[i]?=some x):∃p,ps[i]?=some p/\x=.int p:=by
 rw[Ar] at h;cases e:ps[i]? with
 |none=>rw[e] at h;cases h
 |some p=>rw[e] at h;exact⟨p,rfl,(As h).symm⟩
def dR{as:List Addr}{i:Nat}{x:V}(h:(as.map V.ref)[i]?=some x):∃a,as[i]?=some a/\x=.ref a:=by
 rw[Ar] at h;cases e:as[i]? with
 |none=>rw[e] at h;cases h
 |some p=>rw[e] at h;exact⟨p,rfl,(As h).symm⟩
def AN{a:Type}{l:List a}{i:Nat}{x:a}(h:l[i]?=some x):l.take (i+1)=l.take i++[x]:=by rw[List.take_add_one,h];rfl
def take_all{a:Type}(l:List a):l.take l.length=l:=At (Ag _)
def up(x:Int)(r:List Int):b' ((x::r).map V.int) (some 1) none=r.map V.int:=by
 unfold b';have e:HT.sIx ((x::r).map V.int).length 0 (some 1)=1:=by
  have:=HT.kx ((x::r).map V.int).length 0 1;rw[show((1:Nat):Int)=1 from rfl] at this;rw[this,Ab,Ap];omega
 rw[e,HT.mK];show List.take _ (r.map V.int)=_;rw[At (by simp)]
section
variable{P:Program}{w:World}{K:Ae}{mg:Str->Option Value}{base:Heap}
def yy:Sp:=fun vs H Q _=>∃a ps,vs=[.ref a]/\Tp H a ps/\∀H',Same H H'->Q (.bl (aE ps)) H'
def Fy:zo ["numbers"] ["numbers"] (zf nQ):=⟨rfl,rfl,rfl,δ,rfl,δ,δ⟩
def Fz{f:Addr}{fd:FuncData}{Y Z:Tok}(F:Fun K "is_piece" "is_piece" nQ f fd)(B:Bt mg)(m5:mg "MOST_POINTS"=some (.int 5 Y))(nv:mg "LAST_POINT"=some (.int 99 Z)):FnOk P w K mg base aT 1 f fd ["numbers"] yy:=by
 refine F.ok Fy (fun vs H Q E h=>?_) (fun cdv A outer s H vs Q E hr h=>?_)
 ·obtain⟨a,ps,rfl,_⟩:=h;rfl
 ·obtain⟨a,ps,rfl,o,k⟩:=h
  refine⟨_,ze (zS (gQ (pB iC iC zh (zm zl rfl B.len cP (ae (pv 0) aq)) (gP rfl m5 (v:=.int 5) ⟨_,rfl⟩))) (zg (zp fI)) zt)
   (ze (zS (PW.pt (iq (zq jl (cQ qr (pv 0) zh (fun _ _=>rfl)) zh (au _)) (j_ (zq gU (cQ qr (pv 0) (C9 Db zh) (fun _ _=>rfl)) (gP rfl nv (v:=.int 99) ⟨_,rfl⟩) (au _))))) (zg (zp fI)) zt)
   (zg (zp (zm (nq rfl) rfl B.all nV (ae
    (zz ["numbers"] ["low","high"] [none,none] (Eu rfl B.zip Fv (ae (pv 0) (ae (ge wZ (pv 0) (gd zh) gc) aq)))
     (fun M C s₀ H₀ ex=>C1 rfl (wB (zn (i:=0) (cz ["low","high"]) rfl (Or.inl rfl)) (wB (zn (i:=1) (cz ["low","high"]) rfl (Or.inl rfl)) C0)))
     (fun M C s₀ H₀ ex=>zG) (fun M C s₀ H₀ ex=>gY jl (pv 0) (pv 1) (au _)) (hfr:=bP δ) (g:=kd K 2 (pe (cm 0) (pe (cm 1) kb)))) aq))))),?_⟩
  have G:aE ps=false->Q (.bl false) H:=fun e=>by have:=k H (Same.refl H);rw[e] at this;exact this
  refine⟨_,rfl,a,_,rfl,.inr (SqT.of o),_,_,rfl,rfl,_,rfl,?_⟩;rw[Ab];refine bU (fun h1=>?_) (fun h1=>?_)
  ·refine⟨_,_,rfl,rfl,_,rfl,?_⟩
   have c:1<=ps.length:=by have:=of_decide_eq_true h1;omega
   cases h5:decide ((ps.length:Int)<=5) with
   |false=>
    have d:¬ps.length<=5:=by have:=of_decide_eq_false h5;omega
    exact be (G (by unfold aE;rw[decide_eq_false d];simp))
   |true=>
    have d:ps.length<=5:=by have:=of_decide_eq_true h5;omega
    refine bg ?_;obtain⟨x,r,rfl⟩:∃x r,ps=x::r:=by
     cases ps with
     |nil=>simp at c
     |cons x r=>exact⟨x,r,rfl⟩
    refine⟨_,rfl,a,_,_,_,rfl,rfl,SqT.of o,eN (j:=0) rfl,_,_,rfl,rfl,_,rfl,?_⟩;refine bU (fun hx=>?_) (fun hx=>?_)
    ·refine be (G ?_)
     unfold aE;rw[show decide ((x::r).headD 0<0)=true from hx];simp
    ·refine⟨_,rfl,_,rfl,a,_,_,_,rfl,rfl,SqT.of o,Fx x r,_,_,rfl,rfl,_,rfl,?_⟩
     cases hl:decide (99<(x::r).getLastD 0) with
     |true=>
      refine be (G ?_);unfold aE;rw[hl];simp
     |false=>
      refine bg ?_;refine⟨_,rfl,_,rfl,_,rfl,a,_,rfl,SqT.of o,?_,fun p hp=>?_⟩
      ·intro z
       have e:=HT.kx ((x::r).map V.int).length 0 1;rw[show((1:Nat):Int)=1 from rfl,z.1,Ab,Ap] at e;omega
      ·rw[up]
       have L:Same H (upd H p (.tup (r.map V.int))):=Same.new hp;refine⟨a,p,rfl,⟨_,SqT.of (L.tp o)⟩,⟨_,SqT.of am⟩,fun D N=>?_⟩;have hm:min ((x::r).map V.int).length (r.map V.int).length=r.length:=by simp
       refine zA (Ev (K:=K) (xs:=(x::r).map V.int) (ys:=r.map V.int) (fun i σ zs u=>∃I J,σ=[I,J]/\Same (upd H p (.tup (r.map V.int))) u/\u D=some (.lst zs)/\zs=((((x::r).zip r).map fun q=>decide (q.1<q.2)).take i).map V.bl)
        ⟨none,none,rfl,Same.new N,am,rfl⟩ (fun i σ zs u ⟨_,_,_,l,_⟩=>⟨SqT.of (l.tp (L.tp o)),SqT.of (l _ _ am)⟩) ?_ ?_)
       ·rintro i σ zs u T y1 y2 e1 e2 hi U ⟨I,J,rfl,l,y,rfl⟩ O
        obtain⟨q1,g1,rfl⟩:=iV e1;obtain⟨W,g2,rfl⟩:=iV e2;refine⟨T,_,rfl,SqT.of am,rfl,_,_,rfl,_,_,rfl,rfl,ll ?_⟩;refine⟨_,rfl,_,rfl,_,_,rfl,rfl,bO (AA (Nat.min_le_right _ _) (by rw[Ab];exact zd (by simp at d;omega))) hi U (by rw[zi (zj y O)];exact y) ⟨_,_,rfl,?_,am,?_⟩⟩
        ·exact(l.then (l.free O)).then N
        ·have e3:(((x::r).zip r).map fun q=>decide (q.1<q.2))[i]?=some (decide (q1<W)):=by
          rw[Ar,bu.bK,g1,g2];rfl
         rw[AN e3,Au];rfl
       ·rintro σ zs u ⟨I,J,rfl,l,y,rfl⟩
        refine⟨D,(((x::r).zip r).map fun q=>decide (q.1<q.2)),rfl,SqL.of ?_,?_⟩
        ·rw[y,hm,At (by simp)]
        ·have:=k u (L.trans l)
         have S:=yq (x::r);rw[show(x::r).drop 1=r from rfl] at S;rw[S];have X:aE (x::r)=aX (x::r):=by
          unfold aE;rw[decide_eq_true c,decide_eq_true d,hl];rw[show decide ((x::r).headD 0<0)=false from by simpa using hx]
          rfl
         rw[X] at this;exact this
  ·refine⟨_,rfl,be (G ?_)⟩
   have c:¬1<=ps.length:=fun z=>h1 (decide_eq_true ω);unfold aE;rw[decide_eq_false c]
   rfl
end
end K8
end
section
namespace K8
open K1
open PySem L2
section
variable{P:Program}{w:World}{K:Ae}{mg:Str->Option Value}{base:Heap}
def n3:Sp:=fun vs H Q _=>∃a ps,vs=[.ref a]/\Tp H a ps/\ps.length<=5/\∀D as H',Same H H'->H D=none->H' D=some (.lst (as.map V.ref))->Tps H' as (parts ps)->Q (.ref D) H'
def n5:zo ["piece","found","point"] ["piece"] (zf jG):=⟨rfl,rfl,rfl,δ,rfl,δ,δ⟩
def fB{n:Nat}(h:n<=5):2 ^ n<=32:=by
 have:2 ^ n<=2 ^ 5:=Nat.pow_le_pow_right ξ h;exact this
def yA{H2:Hp}{as:List Addr}{fs:Ξ}{q:Int}{D:Addr}{l:Addr}{Q:VK}(G:H2 l=some (.lst (as.map V.ref)))(ht:Tps H2 as fs)(J:as.length<=100)(H:∀f∈fs,f.length<=100)(w:H2 D=none)(k:∀bs d,Same H2 d->d D=some (.lst (bs.map V.ref))->Tps d bs (fs.map (·++[q]))->Q (.ref D) d):cw (du K l) (cm 0) bN (cV rR (aY 0) (fo (zB (aY 1) bJ))) [none,some (.int q)] H2 D Q:=by
 have E:=ht.length;refine zR (xs:=as.map V.ref) (fun j σ ys d=>∃bs v,σ=[v,some (.int q)]/\Same H2 d/\d D=some (.lst ys)/\ys=bs.map V.ref/\Tps d bs ((fs.take j).map (·++[q]))) ?_ ?_ ?_ ?_
 ·exact⟨[],none,rfl,Same.new w,am,rfl,.nil⟩
 ·rintro j σ ys d ⟨bs,v,rfl,g,h,rfl,hb⟩
  exact SqL.of (g _ _ G)
 ·rintro j σ ys d x hx A hy ⟨bs,v,rfl,g,h,rfl,hb⟩
  obtain⟨a,C,rfl⟩:=dR hx;obtain⟨f,s,hf⟩:=ht.get C;refine cb ?_;refine⟨_,rfl,_,rfl,zd (by simp),fun t o=>?_⟩;have F:=g.tp hf;have u:Same d (upd d t (.tup [.int q])):=Same.new o;refine⟨a,t,_,_,rfl,rfl,u _ _ F,am,?_,fun p r y hp=>?_⟩
  ·rw[Ab]
   exact zd (by have:=H f (Az s);simp;omega)
  ·have i:Same d r:=u.trans y
   refine bO (ys:=bs.map V.ref) (by rw[Ab];exact zd ω) A hy (i _ _ h) ⟨bs++[p],_,rfl,(g.trans i).then w,am,by rw[Au];rfl,?_⟩;rw[AN s,Au];have I:p≠D:=fH hp (i _ _ h) (by intro z;cases z);have keep:∀c xs,r c=some (.tup xs)->upd r D (.lst (bs.map V.ref++[V.ref p])) c=some (.tup xs):=fun c xs e=>by
    rw[zi (fH e (i _ _ h) (by intro z;cases z))];exact e
   refine Tps.snoc (Paired.mapP (i.tps hb) fun c xs e=>keep c _ e) (keep p _ ?_);rw[hp,Au];rfl
 ·rintro σ ys d ⟨bs,v,rfl,g,h,rfl,hb⟩
  rw[Ab,E,take_all] at hb;exact k bs d g h hb
def FB{f:Addr}{fd:FuncData}(F:Fun K "parts_of" "parts_of" jG f fd):FnOk P w K mg base aT 1 f fd ["piece"] n3:=by
 refine F.ok n5 (fun vs H Q E h=>?_) (fun cdv A outer s H vs Q E hr h=>?_)
 ·obtain⟨a,ps,rfl,_⟩:=h;rfl
 ·obtain⟨a,ps,rfl,y,T,k⟩:=h
  refine⟨_,ze (zr (i:=1) n5.nd rfl (Or.inl rfl) (zI (ae (iD aq) aq)))
   (ze (ee Bc rfl (jk (pv 0)) (zn (i:=2) n5.nd rfl (Or.inr rfl))
    (zg (zr (i:=1) n5.nd rfl (Or.inl rfl) (zv eO (pv 1) (zz ["piece","found","point"] ["part","point"] [none,some 2] (zF (pv 1)) (fun p C s₀ H₀ ex=>zn (i:=0) (cz ["part","point"]) rfl (Or.inl rfl)) (fun p C s₀ H₀ ex=>zG)
     (fun p C s₀ H₀ ex=>zv rV (pv 0) (iD (ae (pv 1) aq))) (hfr:=fz (zf jG) δ))))))
   (zg (zp (ge DC (pv 1) (gd zh) gc)))),?_⟩
  refine⟨zd (by simp),fun e he=>⟨zd (by simp),fun l c=>?_⟩⟩;have z:Same H (upd (upd H e (.tup [])) l (.lst [.ref e])):=(Same.new he).then ((Same.new he).free c);have M:e≠l:=zj (H:=upd H e (.tup [])) am c;refine⟨_,rfl,a,rfl,⟨_,SqT.of (z _ _ y)⟩,wG (K:=K) (a:=a) (xs:=ps.map V.int) (fun i σ H2=>∃l as v,σ=[some (.ref a),some (.ref l),v]/\Same H H2/\H l=none/\H2 l=some (.lst (as.map V.ref))/\Tps H2 as (subs (ps.take i)))
   ⟨l,[e],none,rfl,z,(Same.new he).free c,am,.cons (by show upd _ _ _ e=_;rw[zi M];exact am) .nil⟩ (fun i σ H2 _ ⟨_,_,_,_,d,_⟩=>SqT.of (d _ _ y)) ?_ ?_⟩
  ·rintro i x σ H2 hx ⟨l,as,v,rfl,d,o,c,ht⟩
   obtain⟨q,eq,rfl⟩:=iV hx;have hi:i<ps.length:=(List.getElem?_eq_some_iff.mp eq).1;have N:=ht.length;have U:as.length<=32:=by
    rw[N,nP,AI];exact fB ω
   have hm:∀f∈subs (ps.take i),f.length<=100:=fun f hf=>by
    have:=yp _ f hf;rw[AI] at this;omega
   refine⟨_,rfl,_,rfl,l,rfl,⟨_,SqL.of c⟩,fun D g=>zA (yA c ht ω hm g fun bs W j J hb=>?_)⟩;have O:=hb.length;rw[Ab] at O;refine⟨l,D,_,_,rfl,rfl,j _ _ c,J,by rw[Ab,Ab];exact zd ω,fun r u=>?_⟩;have G:H r=none:=(d.trans j).free u;refine⟨r,as++bs,_,rfl,(d.trans j).then G,G,by rw[am,Au],?_⟩;rw[AN eq,tN];exact(Same.new u).tps ((j.tps ht).append hb)
  ·rintro σ H2 ⟨l,as,v,rfl,d,o,c,ht⟩
   rw[Ab,take_all] at ht;refine⟨_,rfl,_,rfl,l,_,rfl,SqL.of c,fun D g=>?_⟩;have I:H D=none:=d.free g;obtain⟨t,L,_⟩:=tT ps;refine k D (as.drop 1) _ (d.then I) I ?_ ?_
   ·rw[am]
    unfold b';have S:1<=as.length:=by rw[ht.length,L];simp
    have e1:HT.sIx (as.map V.ref).length 0 (some 1)=1:=by
     have:=HT.kx (as.map V.ref).length 0 1;rw[show((1:Nat):Int)=1 from rfl] at this;rw[this,Ab];omega
    rw[e1,HT.mK,<-List.map_drop,At (by simp)]
   ·exact(Same.new g).tps (ht.drop 1)
def FC:zo ["piece"] ["piece"] (zf eE):=⟨rfl,rfl,rfl,δ,rfl,δ,δ⟩
def FD{f:Addr}{fd:FuncData}(F:Fun K "order_key" "order_key" eE f fd)(B:Bt mg):FnOk P w K mg base aT 1 f fd ["piece"] nI:=by
 refine F.ok FC (fun vs H Q E h=>?_) (fun cdv A outer s H vs Q E hr h=>?_)
 ·obtain⟨a,ps,rfl,_⟩:=h;rfl
 ·obtain⟨a,ps,rfl,c,k⟩:=h
  refine⟨_,zg (zp (iD (ae (zm zl rfl B.len cP (ae (pv 0) aq)) (ae (pv 0) aq)))),?_⟩;refine⟨_,rfl,a,_,rfl,.inr (SqT.of c),_,rfl,zd (by simp),fun p hp=>?_⟩;rw[Ab];exact k p hp
def uv(K:Ae):Sp:=fun vs H Q _=>∃l as pss,vs=[.ref l]/\SqL K H l (as.map V.ref)/\Tps H as pss/\pss.length<1000/\
 ∀D H2(c:List (List Int×Addr)),Same H H2->H D=none->H2 D=some (.lst (c.map fun q=>V.ref q.2))->c.Perm (pss.zip as)->c.Pairwise (fun a b=>HT.lexLt ((b.1.length:Int)::b.1) ((a.1.length:Int)::a.1)=false)->Q (.ref D) H2
def FE:zo ["some"] ["some"] (zf jI):=⟨rfl,rfl,rfl,δ,rfl,δ,δ⟩
def yB{f a:Addr}{fd c:FuncData}(F:Fun K "in_order" "in_order" jI f fd)(B:Bt mg)(i:Fun K "order_key" "order_key" eE a c)(bk:Binds K c ["piece"] [])(mk:mg "order_key"=some (.ref a)):FnOk P w K mg base aT 4 f fd ["some"] (uv K):=by
 have g:FnOk P w K mg base aT 1 a c ["piece"] nI:=FD i B;refine F.ok FE (fun vs H Q E h=>?_) (fun cdv A outer s H vs Q E hr h=>?_)
 ·obtain⟨l,as,pss,rfl,_⟩:=h;rfl
 ·obtain⟨l,as,pss,rfl,d,ht,e,k⟩:=h
  refine⟨_,zg (zp (EK g hr bk rfl B.sorted nY rfl mk (ae (pv 0) aq))),?_⟩;exact⟨_,rfl,l,as,pss,rfl,d,ht,e,k⟩
end
end K8
end
section
namespace K8
open K1
open PySem L2 STb
def Tps.upd{H:Hp}{d:Addr}{o o':HO}{as:List Addr}{pss:Ξ}(h:Tps H as pss)(hd:H d=some o')(c:∀xs,o'≠.tup xs):Tps (L2.upd H d o) as pss:=
 Paired.mapP h fun a ps e=>by
  show L2.upd H d o a=_;rw[zi (fH (show H a=some _ from e) hd fun z=>c _ z.symm)];exact e
def c6(seq:Ξ):List (List Key×V):=(dd seq).map fun ps=>((ps.map Sum.inl:List Key),V.bl true)
def ux(seq:Ξ):(c6 seq).length<=seq.length:=by unfold c6;rw[Ab];exact gI seq
def uQ(seq:Ξ)(ps:List Int):putK (c6 seq) (ps.map Sum.inl) (.bl true)=c6 (seq++[ps]):=by
 unfold putK c6;rw[jE];have c:(((dd seq).map fun ps=>((ps.map Sum.inl:List Key),V.bl true)).any fun a=>decide (a.1=ps.map Sum.inl))=decide (ps∈dd seq):=by
  rw[List.any_map]
  by_cases h:ps∈dd seq
  ·rw[decide_eq_true h,List.any_eq_true]
   exact⟨ps,h,by simp⟩
  ·rw[decide_eq_false h,List.any_eq_false]
   intro q hq;simp only[Function.comp,decide_eq_true_eq,xU];rintro rfl;exact h hq
 rw[c]
 by_cases h:ps∈dd seq
 ·rw[decide_eq_true h,if_pos rfl,if_pos h,AK]
  refine List.map_congr_left fun q hq=>?_;simp only[Function.comp];split<;>rfl
 ·rw[decide_eq_false h,if_neg (by simp),if_neg h,Au]
  rfl
def yC{H:Hp}{seq:Ξ}{bs:List Addr}(h:Paired (fun(p:List Key×V) b=>H b=some (.tup (p.1.map kV))) (c6 seq) bs):Tps H bs (dd seq):=by
 unfold c6 at h;generalize dd seq=l at h
 induction l generalizing bs with
 |nil=>cases h;exact .nil
 |cons x l ih=>
  rw[AT] at h;cases h with
  |cons r t=>
   refine .cons ?_ (ih t);show H _=_;rw[r,AK]
   rfl
def yD(pss:Ξ)(h:∀ps∈pss,ps.length<=5):(pss.flatMap parts).length<=31*pss.length:=by
 induction pss with
 |nil=>simp
 |cons x l ih=>
  rw[List.flatMap_cons,Aq,iS,Ap];have:=ih fun ps hp=>h ps (An _ hp);have:=fB (h x Aj);omega
def yE{pss:Ξ}{i:Nat}{ps:List Int}(h:pss[i]?=some ps):(pss.take (i+1)).flatMap parts=(pss.take i).flatMap parts++parts ps:=by
 rw[AN h,List.flatMap_append];simp
def Told(H H2:Hp)(pss:Ξ)(D:Addr)(c:List (List Int×Addr)):Prop:=
 Same H H2/\H D=none/\H2 D=some (.lst (c.map fun q=>V.ref q.2))/\(∀q∈c,Tp H2 q.2 q.1)/\(c.map (·.1)).Perm (dd (pss.flatMap parts))/\c.Pairwise (fun a b=>HT.lexLt ((b.1.length:Int)::b.1) ((a.1.length:Int)::a.1)=false)
section
variable{P:Program}{w:World}{K:Ae}{mg:Str->Option Value}{base:Heap}
def jJ(K:Ae):Sp:=fun vs H Q _=>∃l as pss,vs=[.ref l]/\SqL K H l (as.map V.ref)/\Tps H as pss/\(∀ps∈pss,ps.length<=5)/\pss.length<=200/\(dd (pss.flatMap parts)).length<1000/\∀D H2 a,Told H H2 pss D a->Q (.ref D) H2
def n7:zo ["some","found","piece","part"] ["some"] (zf sAll):=⟨rfl,rfl,rfl,δ,rfl,δ,δ⟩
def yF{f fp N fk:Addr}{fd O S cM:FuncData}(F:Fun K "all_parts" "all_parts" sAll f fd)(B:Bt mg)(Fp:Fun K "parts_of" "parts_of" jG fp O)(bp:Binds K O ["piece"] [])(mp:mg "parts_of"=some (.ref fp))(Fo:Fun K "in_order" "in_order" jI N S)(bo:Binds K S ["some"] [])(mo:mg "in_order"=some (.ref N))(Fk:Fun K "order_key" "order_key" eE fk cM)(bk:Binds K cM ["piece"] [])(mk:mg "order_key"=some (.ref fk)):FnOk P w K mg base aT 5 f fd ["some"] (jJ K):=by
 have Gp:FnOk P w K mg base aT 1 fp O ["piece"] n3:=FB Fp;have Go:FnOk P w K mg base aT 4 N S ["some"] (uv K):=yB Fo B Fk bk mk;refine F.ok n7 (fun vs H Q E h=>?_) (fun cdv A outer s H vs Q E hr h=>?_)
 ·obtain⟨l,as,pss,rfl,_⟩:=h;rfl
 ·obtain⟨l,as,pss,rfl,W,ht,X,h20,b_,k⟩:=h
  have hu:=mO hr;have M:Room 1 _:=hr.mono ξ;refine⟨_,ze (zr (i:=1) n7.nd rfl (Or.inl rfl) rg)
   (ze (ee Bc rfl (zF (pv 0)) (zn (i:=2) n7.nd rfl (Or.inl rfl))
    (zg (ee Bc rfl (zF (zx Gp M rfl mp Fp.kp bp .nil aw (ae (pv 2) aq))) (zn (i:=3) n7.nd rfl (Or.inl rfl))
     (zg (mN hu (pv 1) (pv 3) fI rfl)))))
   (zg (zp (zx Go hr rfl mo Fo.kp bo .nil aw (ae (zw (xS rfl) rfl B.list ue (ae (pv 1) aq)) aq))))),?_⟩
  intro d hd;have aQ:=ht.length;refine⟨_,rfl,l,rfl,⟨_,(Same.new hd).seq W⟩,f_ (K:=K) (a:=l) (xs:=as.map V.ref) (fun i σ H2=>∃v g,σ=[some (.ref l),some (.ref d),v,g]/\Same H H2/\H2 d=some (.dT (c6 ((pss.take i).flatMap parts))))
   ⟨none,none,rfl,Same.new hd,am⟩ (fun i σ H2 _ ⟨_,_,_,e,_⟩=>e.seq W) ?_ ?_⟩
  ·rintro i x σ H2 hx ⟨v,g,rfl,e,u⟩
   obtain⟨a,ea,rfl⟩:=dR hx;obtain⟨ps,I,cS⟩:=ht.get ea;have Z:=X ps (Az I);have hi:i<pss.length:=(List.getElem?_eq_some_iff.mp I).1;refine⟨_,rfl,a,ps,rfl,e.tp cS,Z,fun D cs H3 p dG r T=>⟨D,rfl,⟨_,SqL.of r⟩,?_⟩⟩;have jD:=T.length;have iT:D≠d:=fH r (p _ _ u) (by intro z;cases z);refine f_ (K:=K) (a:=D) (xs:=cs.map V.ref) (fun j σ o=>∃g,σ=[some (.ref l),some (.ref d),some (.ref a),g]/\Same H o/\o D=some (.lst (cs.map V.ref))/\Tps o cs (parts ps)/\o d=some (.dT (c6 ((pss.take i).flatMap parts++(parts ps).take j))))
    ⟨_,rfl,e.trans p,r,T,by rw[List.take_zero,List.append_nil];exact p _ _ u⟩ (fun j σ o _ ⟨_,_,_,q,_⟩=>SqL.of q) ?_ ?_
   ·rintro j x σ o hx ⟨g,rfl,J,Y,L,y⟩
    obtain⟨c,ec,rfl⟩:=dR hx;obtain⟨f,ef,hf⟩:=L.get ec;have C:(c6 ((pss.take i).flatMap parts++(parts ps).take j)).length<sizeLine:=by
     refine fA (AA (ux _) ?_);rw[Aq];have h1:=yD (pss.take i) (fun q hq=>X q (List.mem_of_mem_take hq));have h2:=iS ps;have h3:=fB Z;rw[AI] at h1 ⊢;omega
    refine⟨_,rfl,_,rfl,d,_,rfl,DPut.t (k:=f.map Sum.inl) y (by rw[AK];exact hf) C,⟨_,rfl,J.then hd,?_,?_,?_⟩⟩
    ·rw[zi iT];exact Y
    ·exact Tps.upd L y (by intro xs z;cases z)
    ·rw[am,uQ,AY,<-AN ef]
   ·rintro σ o ⟨g,rfl,J,Y,L,y⟩
    refine⟨_,_,rfl,J,?_⟩;rw[Ab,jD,take_all] at y;rw[yE I];exact y
  ·rintro σ H2 ⟨v,g,rfl,e,u⟩
   rw[Ab,aQ,take_all] at u;refine⟨_,rfl,d,_,rfl,u,fun bs hb U G=>?_⟩;have tb:=yC hb;have gO:=tb.length;refine⟨U,bs,dd (pss.flatMap parts),rfl,SqL.of am,(Same.new G).tps tb,b_,fun D H3 qs p r ah hp hs=>?_⟩;have gM:H U=none:=e.free G;refine k D H3 qs ⟨(e.then gM).trans p,(e.then gM).free r,ah,fun q hq=>?_,?_,hs⟩
   ·obtain⟨m,em⟩:=List.mem_iff_getElem?.mp (hp.mem_iff.mp hq)
    rw[bu.bK] at em;cases e1:(dd (pss.flatMap parts))[m]? with
    |none=>rw[e1] at em;cases em
    |some f=>
     cases e2:bs[m]? with
     |none=>rw[e1,e2] at em;cases em
     |some b=>
      rw[e1,e2] at em;obtain rfl:(f,b)=q:=As em;exact p.tp ((Same.new G).tp (kX tb m b f e2 e1))
   ·have:=hp.map (·.1)
    rw[List.map_fst_zip ω] at this;exact this
def uT(K:Ae):Sp:=fun vs H Q _=>∃l as pss,vs=[.ref l]/\SqL K H l (as.map V.ref)/\Tps H as pss/\(pss.all aE=true->(dd (pss.flatMap parts)).length<1000)/\∀H',Same H H'->Q (.bl (bv pss)) H'
def FF:zo ["web"] ["web"] (zf nU):=⟨rfl,rfl,rfl,δ,rfl,δ,δ⟩
def FG{f L fa fp X Y:Addr}{fd M N Z eT cM:FuncData}{t5 md O lU:Tok}(F:Fun K "is_web" "is_web" nU f fd)(B:Bt mg)(m5:mg "MOST_POINTS"=some (.int 5 t5))(nv:mg "LAST_POINT"=some (.int 99 md))(j8:mg "MOST_HANDED"=some (.int 20 O))(mq:mg "MOST_PIECES"=some (.int 200 lU))(Fi:Fun K "is_piece" "is_piece" nQ L M)(bi:Binds K M ["numbers"] [])(mi:mg "is_piece"=some (.ref L))(Fa:Fun K "all_parts" "all_parts" sAll fa N)(ba:Binds K N ["some"] [])(ma:mg "all_parts"=some (.ref fa))(Fp:Fun K "parts_of" "parts_of" jG fp Z)(bp:Binds K Z ["piece"] [])(mp:mg "parts_of"=some (.ref fp))(Fo:Fun K "in_order" "in_order" jI X eT)(bo:Binds K eT ["some"] [])(mo:mg "in_order"=some (.ref X))(Fk:Fun K "order_key" "order_key" eE Y cM)(bk:Binds K cM ["piece"] [])(mk:mg "order_key"=some (.ref Y)):FnOk P w K mg base aT 6 f fd ["web"] (uT K):=by
 have Gi:FnOk P w K mg base aT 1 L M ["numbers"] yy:=Fz Fi B m5 nv;have Ga:FnOk P w K mg base aT 5 fa N ["some"] (jJ K):=yF Fa B Fp bp mp Fo bo mo Fk bk mk;refine F.ok FF (fun vs H Q E h=>?_) (fun cdv A outer s H vs Q E hr h=>?_)
 ·obtain⟨l,as,pss,rfl,_⟩:=h;rfl
 ·obtain⟨l,as,pss,rfl,j,ht,b_,k⟩:=h
  have bC:=hr.units;have I:Room 1 _:=hr.mono ξ;refine⟨_,ze (zS (zq gU (zm zl rfl B.len cP (ae (pv 0) aq)) (gP rfl j8 (v:=.int 20) ⟨_,rfl⟩) (au _)) (zg (zp fI)) zt)
   (ze (zS (gQ (jj (zm (nq rfl) rfl B.all nV (ae
    (zz ["web"] ["numbers"] [none] (zF (pv 0)) (fun T C s₀ H₀ ex=>zn (i:=0) (cz ["numbers"]) rfl (Or.inl rfl)) (fun T C s₀ H₀ ex=>zG)
     (fun T C s₀ H₀ ex=>zx Gi I rfl mi Fi.kp bi .nil aw (ae (pv 0) aq)) (hfr:=bP δ)) aq)))) (zg (zp fI)) zt)
   (ze (zS (zq jl (zm Fj rfl B.len cP (ae (zw (Fh rfl bC) rfl B.set yw (ae (pv 0) aq)) aq)) (zm zl rfl B.len cP (ae (pv 0) aq)) (au _)) (zg (zp fI)) zt)
   (zg (zp (gY iC (zm zl rfl B.len cP (ae (zx Ga hr rfl ma Fa.kp ba .nil aw (ae (pv 0) aq)) aq)) (gP rfl mq (v:=.int 200) ⟨_,rfl⟩) (au _)))))),?_⟩
  have W:=ht.length;refine⟨_,rfl,l,_,rfl,.inl j,_,_,rfl,rfl,_,rfl,?_⟩;rw[Ab];refine bU (fun h1=>?_) (fun h1=>?_)
  ·have:=k H (Same.refl H)
   rw[Fs pss (by have:=of_decide_eq_true h1;omega)] at this;exact this
  ·have o:pss.length<=20:=by
    have:¬((20:Int)<as.length):=fun z=>h1 (decide_eq_true z);omega
   refine⟨_,rfl,l,rfl,⟨_,j⟩,fun D U=>zA (zR (K:=K) (a:=l) (xs:=as.map V.ref) (fun i σ ys g=>∃v,σ=[v]/\Same H g/\g D=some (.lst ys)/\ys=((pss.map aE).take i).map V.bl)
    ⟨none,rfl,Same.new U,am,rfl⟩ (fun i σ ys g ⟨_,_,c,_⟩=>c.seq j) ?_ ?_)⟩
   ·rintro i σ ys g x hx hi hy ⟨v,rfl,c,y,rfl⟩
    obtain⟨a,ea,rfl⟩:=dR hx;obtain⟨ps,cn,G⟩:=ht.get ea;refine cb ?_;refine⟨_,rfl,a,ps,rfl,c.tp G,fun H4 u=>bO (by rw[Ab];exact zd ω) hi hy (u _ _ y) ⟨_,rfl,(c.trans u).then U,am,?_⟩⟩;have e:(pss.map aE)[i]?=some (aE ps):=by rw[Ar,cn];rfl
    rw[AN e,Au];rfl
   ·rintro σ ys g ⟨v,rfl,c,y,rfl⟩
    rw[Ab,W,At (by simp)] at y;refine⟨D,pss.map aE,rfl,SqL.of y,_,rfl,?_⟩;have lq:(pss.map aE).all id=pss.all aE:=by rw[List.all_map];rfl
    rw[lq];cases hp:pss.all aE with
    |false=>
     refine be ?_;have:=k g c;rw[show bv pss=false from by unfold bv;rw[hp];simp] at this;exact this
    |true=>
     refine bg ?_;refine⟨_,rfl,l,as,pss,rfl,c.seq j,c.tps ht,ω,fun S hS=>?_⟩;have p:Same H (upd g S (fQ S (dd pss).length)):=c.then (c.free hS);refine⟨S,_,rfl,am,_,rfl,l,_,rfl,.inl (p.seq j),_,_,rfl,rfl,_,rfl,?_⟩;rw[Ab,W];refine bU (fun h2=>?_) (fun h2=>?_)
     ·have J:(dd pss).length<pss.length:=by have:=of_decide_eq_true h2;omega
      have:=k _ p;rw[show bv pss=false from by unfold bv;rw[decide_eq_true J];simp] at this;exact this
     ·have J:¬(dd pss).length<pss.length:=fun z=>h2 (decide_eq_true ω)
      refine⟨_,rfl,l,as,pss,rfl,p.seq j,p.tps ht,fun ps G=>?_,AA o ξ,b_ hp,fun D2 H4 qs ⟨u,_,bF,_,d,_⟩=>?_⟩
      ·have:=List.all_eq_true.mp hp ps G
       unfold aE at this;simp only[AE,decide_eq_true_eq] at this;exact this.1.1.1.2
      ·refine⟨D2,_,rfl,.inl (SqL.of bF),_,_,rfl,rfl,?_⟩
       have r:(qs.map fun q=>V.ref q.2).length=(dd (pss.flatMap parts)).length:=by
        rw[Ab,<-d.length_eq,Ab]
       rw[r];have:=k H4 (p.trans u);have e:bv pss=decide (((dd (pss.flatMap parts)).length:Int)<=200):=by
        unfold bv;rw[hp,decide_eq_true o,decide_eq_false J]
        by_cases q:(dd (pss.flatMap parts)).length<=200
        ·rw[decide_eq_true q,decide_eq_true (show((dd (pss.flatMap parts)).length:Int)<=200 from ω)];rfl
        ·rw[decide_eq_false q,decide_eq_false (show ¬((dd (pss.flatMap parts)).length:Int)<=200 from ω)];rfl
       rw[e] at this;exact this
end
end K8
end
section
namespace K8
open K1
open PySem L2 STb
abbrev uV:Stmt:=top 40
abbrev iW:Stmt:=top 41
abbrev lr:Stmt:=top 42
def yG(x y:Int):Prop:=0<=x/\(y=0\/(y=1/\x<4294967296))
def zD(H:Hp)(p:Addr):Prop:=∃x y,H p=some (.lst [.int x,.int y])/\yG x y
def zP(p:Addr)(H H':Hp):Prop:=∀b o,b≠p->H b=some o->H' b=some o
def zP.trans{p:Addr}{H H1 H2:Hp}(a:zP p H H1)(b:zP p H1 H2):zP p H H2:=fun c o hc e=>b c o hc (a c o hc e)
def zP.of{p:Addr}{H H1:Hp}(a:Same H H1):zP p H H1:=fun c o _ e=>a c o e
def zP.free{p:Addr}{H H':Hp}(e:zP p H H')(hb:zD H p)(a:zD H' p){l:Addr}(h:H' l=none):H l=none:=by
 cases q:H l with
 |none=>rfl
 |some o=>
  obtain⟨x,y,e1,_⟩:=a;have c:l≠p:=fun z=>by rw[z,e1] at h;cases h
  rw[e l o c q] at h;cases h
def zD.same{H H':Hp}{p:Addr}(b:zD H p)(e:Same H H'):zD H' p:=let ⟨x,y,h,o⟩:=b;⟨x,y,e _ _ h,o⟩
def zD.ne{H:Hp}{p l:Addr}{as:List Addr}(b:zD H p)(h:H l=some (.lst (as.map V.ref))):l≠p:=by
 obtain⟨x,y,e,_⟩:=b;refine fH h e fun z=>?_;injection z with z
 cases as with
 |nil=>cases z
 |cons a r=>rw[AT] at z;cases z
def zD.net{H:Hp}{p t:Addr}{xs:List V}(b:zD H p)(h:H t=some (.tup xs)):t≠p:=by
 obtain⟨x,y,e,_⟩:=b;exact fH h e (by intro z;cases z)
def zP.tp{p:Addr}{H H':Hp}{a:Addr}{ps:List Int}(e:zP p H H')(b:zD H p)(h:Tp H a ps):Tp H' a ps:=e _ _ (b.net h) h
def zP.tps{p:Addr}{H H':Hp}{as:List Addr}{pss:Ξ}(e:zP p H H')(b:zD H p)(h:Tps H as pss):Tps H' as pss:=Paired.mapP h fun _ _ q=>e.tp b q
def zP.then{p:Addr}{H H1:Hp}{a:Addr}{o:HO}(e:zP p H H1)(h:H a=none):zP p H (L2.upd H1 a o):=fun b u hb q=>by rw[zi (zj q h)];exact e b u hb q
def zD.upd{H:Hp}{p l:Addr}{o:HO}(b:zD H p)(h:l≠p):zD (L2.upd H l o) p:=let ⟨x,y,e,k⟩:=b;⟨x,y,by rw[zi h.symm];exact e,k⟩
def zD.new{H:Hp}{p l:Addr}{o:HO}(b:zD H p)(h:H l=none):zD (L2.upd H l o) p:=b.same (Same.new h)
section
variable{P:Program}{w:World}{K:Ae}{mg:Str->Option Value}{base:Heap}
def yH(K:Ae):Sp:=fun vs H Q _=>∃(l:Addr)(ns:List Int),vs=[.ref l,.int 0]/\SqL K H l (ns.map V.int)/\∀n,Q (.int n) H
def FH:zo ["script","k"] ["script","k"] (zf uV):=⟨rfl,rfl,rfl,δ,rfl,δ,δ⟩
def FI{f:Addr}{fd:FuncData}(F:Fun K "_law_cell_at" "_law_cell_at" uV f fd)(B:Bt mg):FnOk P w K mg base aT 1 f fd ["script","k"] (yH K):=by
 refine F.ok FH (fun vs H Q E h=>?_) (fun cdv A outer s H vs Q E hr h=>?_)
 ·obtain⟨l,ns,rfl,_⟩:=h;rfl
 ·obtain⟨l,ns,rfl,a,k⟩:=h
  refine⟨_,ze (zS (zq jl (pv 1) (zm zl rfl B.len cP (ae (pv 0) aq)) (au _)) (zg (zp (cQ zX (pv 0) (pv 1) (fun _ _=>rfl)))) zt) (zg (zp zh)),?_⟩;refine⟨_,rfl,_,rfl,l,_,rfl,.inl a,_,_,rfl,rfl,_,rfl,?_⟩;refine bU (fun h1=>?_) (fun h1=>?_)
  ·cases ns with
   |nil=>have:=of_decide_eq_true h1;simp at this
   |cons n ns=>exact⟨_,rfl,_,rfl,l,_,_,_,rfl,rfl,a,eN (j:=0) rfl,k n⟩
  ·exact k 0
def yI:Sp:=fun vs H Q _=>∃n,vs=[.int n]/\∀p x y,H p=none->yG x y->Q (.ref p) (upd H p (.lst [.int x,.int y]))
def FJ:zo ["cell"] ["cell"] (zf iW):=⟨rfl,rfl,rfl,δ,rfl,δ,δ⟩
def FK{f:Addr}{fd:FuncData}(F:Fun K "_law_box" "_law_box" iW f fd):FnOk P w K mg base aT 1 f fd ["cell"] yI:=by
 refine F.ok FJ (fun vs H Q E h=>?_) (fun cdv A outer s H vs Q E hr h=>?_)
 ·obtain⟨n,rfl,_⟩:=h;rfl
 ·obtain⟨n,rfl,k⟩:=h
  refine⟨_,ze (zS (zq De (pv 0) (zv pq zh zh) (au _)) (zg (zp (zI (ae (zv C_ (pv 0) (zv pq zh zh)) (ae zh aq))))) zt)
   (zg (zp (zI (ae (zv iB (zv dD (zv iA (zv iB (pv 0) (zv pq zh zh)) zh) zh) zh) (ae zh aq))))),?_⟩
  have hc:kn 10 18:=⟨ξ,ξ,ξ⟩;have a:(10:Int) ^ (18:Int).toNat=1000000000000000000:=ξ
  refine⟨_,rfl,_,_,rfl,rfl,hc,_,_,rfl,rfl,_,rfl,?_⟩;refine bU (fun h1=>?_) (fun h1=>?_)
  ·refine⟨_,rfl,_,_,rfl,rfl,hc,_,_,rfl,rfl,zd (by simp),fun p hp=>k p _ 0 hp ⟨?_,.inl rfl⟩⟩
   have:=of_decide_eq_true h1;omega
  ·refine⟨_,rfl,_,_,rfl,rfl,hc,_,_,rfl,rfl,(by show(0:Int)<10 ^ (18:Int).toNat;rw[a];decide),_,_,rfl,rfl,.inr ⟨ξ,ξ⟩,_,_,rfl,rfl,_,_,rfl,rfl,(by show(0:Int)<2147483629;decide),zd (by simp),fun p hp=>k p _ 1 hp ⟨?_,.inr ⟨rfl,?_⟩⟩⟩
   ·exact Int.emod_nonneg _ ξ
   ·have:=Int.emod_lt_of_pos (n%10 ^ (18:Int).toNat*69621+7001) (show(0:Int)<2147483629 from ξ)
    omega
def gh:Sp:=fun vs H Q _=>∃p m,vs=[.ref p,.int m]/\zD H p/\0<m/\m<1073741824/\∀r H',0<=r->r<m->zP p H H'->zD H' p->Q (.int r) H'
def u0:zo ["box","most","found","mixed"] ["box","most"] (zf lr):=⟨rfl,rfl,rfl,δ,rfl,δ,δ⟩
def u4{f:Addr}{fd:FuncData}(F:Fun K "_law_take" "_law_take" lr f fd):FnOk P w K mg base aT 1 f fd ["box","most"] gh:=by
 refine F.ok u0 (fun vs H Q E h=>?_) (fun cdv A outer s H vs Q E hr h=>?_)
 ·obtain⟨p,m,rfl,_⟩:=h;rfl
 ·obtain⟨p,m,rfl,⟨x,y,hp,d,g⟩,a,hm,k⟩:=h
  refine⟨_,ze (zS (zq dI (cQ zX (pv 0) zh (fun _ _=>rfl)) zh (au _))
    (ze (zr (i:=2) u0.nd rfl (Or.inl rfl) (zv iB (cQ zX (pv 0) zh (fun _ _=>rfl)) (pv 1)))
    (ze (wD (zv wH (cQ zX (pv 0) zh (fun _ _=>rfl)) (pv 1)) (wC (pv 0) zh set_list))
    (zg (zp (pv 2))))) zt)
   (ze (zr (i:=3) u0.nd rfl (Or.inl rfl) (zv iB (zv dD (zv dD (zv iA (cQ zX (pv 0) zh (fun _ _=>rfl)) (cQ zX (pv 0) zh (fun _ _=>rfl))) (zv iA zh (cQ zX (pv 0) zh (fun _ _=>rfl)))) zh) zh))
   (ze (wD (zv iB (zv dD (zv dD (zv iA (pv 3) (pv 3)) (zv iA zh (pv 3))) zh) zh) (wC (pv 0) zh set_list))
   (zg (zp (zv iB (zv wH (cQ zX (pv 0) zh (fun _ _=>rfl)) zh) (pv 1)))))),?_⟩
  have c:atI ([.int x,.int y]:List V) 0=some (.int x):=eN (j:=0) rfl;have D:atI ([.int x,.int y]:List V) 1=some (.int y):=eN (j:=1) rfl;refine⟨_,rfl,p,_,_,_,rfl,rfl,SqL.of hp,D,rfl,_,rfl,?_⟩;refine bU (fun h1=>?_) (fun h1=>?_)
  ·refine⟨_,rfl,p,_,_,_,rfl,rfl,SqL.of hp,c,_,rfl,_,_,rfl,rfl,a,?_⟩
   refine⟨_,rfl,p,_,_,_,rfl,rfl,SqL.of hp,c,_,rfl,_,_,rfl,rfl,⟨a,hm⟩,_,rfl,p,_,_,0,rfl,rfl,hp,rfl,?_⟩;refine⟨_,rfl,k (x%m) _ (Int.emod_nonneg _ ω) (Int.emod_lt_of_pos _ a) (fun b o hb e=>by rw[zi hb];exact e) ⟨x / m,y,am,Int.ediv_nonneg d ω,?_⟩⟩;rcases g with q|⟨q,hx⟩
   ·exact .inl q
   ·refine .inr ⟨q,Int.lt_of_le_of_lt (Int.ediv_le_self _ d) hx⟩
  ·have hy:y=1/\x<4294967296:=by
    rcases g with q|q
    ·exact absurd (by subst q;rfl) h1
    ·exact q
   obtain⟨rfl,hx⟩:=hy;have hb:CMul x x:=.inl ⟨ω,ω⟩;refine⟨_,rfl,p,_,_,_,rfl,rfl,SqL.of hp,c,_,rfl,p,_,_,_,rfl,rfl,SqL.of hp,c,_,_,rfl,rfl,hb,_,rfl,p,_,_,_,rfl,rfl,SqL.of hp,c,_,_,rfl,rfl,.inl ⟨ξ,ξ⟩,_,_,rfl,rfl,_,_,rfl,rfl,_,_,rfl,rfl,(by show(0:Int)<2147483647;decide),?_⟩;have G:=Int.emod_nonneg (x*x+39373*x+12345) (show(2147483647:Int)≠0 from ξ);have I:=Int.emod_lt_of_pos (x*x+39373*x+12345) (show(0:Int)<2147483647 from ξ);obtain⟨z,l⟩:∃z,z=(x*x+39373*x+12345)%2147483647:=⟨_,rfl⟩;rw[<-l] at G I;show j' _ _ _ ([some (.ref p),some (.int m),none,some (.int ((x*x+39373*x+12345)%2147483647))]:St) H;rw[<-l];refine⟨_,rfl,_,rfl,_,_,rfl,rfl,.inl ⟨ω,ω⟩,_,rfl,_,_,rfl,rfl,.inl ⟨ξ,ξ⟩,_,_,rfl,rfl,_,_,rfl,rfl,_,_,rfl,rfl,(by show(0:Int)<2147483587;decide),_,rfl,p,_,_,0,rfl,rfl,hp,rfl,?_⟩;have v:=Int.emod_nonneg (z*z+16807*z+7) (show(2147483587:Int)≠0 from ξ);have g1:=Int.emod_lt_of_pos (z*z+16807*z+7) (show(0:Int)<2147483587 from ξ);obtain⟨u,r⟩:∃u,u=(z*z+16807*z+7)%2147483587:=⟨_,rfl⟩;rw[<-r] at v g1;have C:upd H p (.lst [.int ((z*z+16807*z+7)%2147483587),.int 1]) p=some (.lst [.int u,.int 1]):=by rw[r];exact am
   refine⟨_,rfl,p,_,_,_,rfl,rfl,SqL.of C,eN (j:=0) rfl,_,_,rfl,rfl,⟨ξ,ξ⟩,_,rfl,_,_,rfl,rfl,a,?_⟩;exact k _ _ (Int.emod_nonneg _ ω) (Int.emod_lt_of_pos _ a) (fun b o hb e=>by rw[zi hb];exact e) ⟨u,1,C,v,.inr ⟨rfl,ω⟩⟩
end
end K8
end
section
namespace K8
open K1
open PySem L2 STb
abbrev lu:Stmt:=top 43
abbrev n8:Stmt:=top 44
section
variable{P:Program}{w:World}{K:Ae}{mg:Str->Option Value}{base:Heap}
def FM{H2:Hp}{as:List Addr}{fs:Ξ}{D l:Addr}{Q:VK}(F:H2 l=some (.lst (as.map V.ref)))(ht:Tps H2 as fs)(G:as.length<=100)(A:H2 D=none)(k:∀bs d,Same H2 d->d D=some (.lst (bs.map V.ref))->Tps d bs (fs.filter fun q=>!decide (q=[]))->Q (.ref D) d):cw (du K l) (cm 0) (jm (cV (gE true K) (aY 0) (fo bJ))) (aY 0) [none] H2 D Q:=by
 have E:=ht.length;refine zR (xs:=as.map V.ref) (fun j σ ys d=>∃bs v,σ=[v]/\Same H2 d/\d D=some (.lst ys)/\ys=bs.map V.ref/\Tps d bs ((fs.take j).filter fun q=>!decide (q=[]))) ?_ ?_ ?_ ?_
 ·exact⟨[],none,rfl,Same.new A,am,rfl,.nil⟩
 ·rintro j σ ys d ⟨bs,v,rfl,i,p,rfl,hb⟩
  exact SqL.of (i _ _ F)
 ·rintro j σ ys d x hx s hy ⟨bs,v,rfl,i,p,rfl,hb⟩
  obtain⟨a,C,rfl⟩:=dR hx;obtain⟨f,u,hf⟩:=ht.get C;refine⟨_,rfl,zd (by simp),fun t r=>?_⟩;have w:=i.tp hf;have g:Same d (upd d t (.tup [])):=Same.new r;refine .inl ⟨a,t,f,[],rfl,rfl,g.tp w,am,_,rfl,?_⟩;have y:=i.trans g;have keep:∀(o:HO) c xs,upd d t (.tup []) c=some (.tup xs)->upd (upd d t (.tup [])) D o c=some (.tup xs):=fun o c xs e=>by
   rw[zi (fH e (g _ _ p) (by intro z;cases z))];exact e
  by_cases h:f=[]
  ·subst h
   refine bg (eX s hy ⟨bs,_,rfl,y,g _ _ p,rfl,?_⟩);rw[AN u,Bg]
   simpa using g.tps hb
  ·rw[if_pos rfl,show(!decide (f=[]))=true by simp[h]]
   refine be ⟨_,rfl,bO (ys:=bs.map V.ref) (by rw[Ab];exact zd ω) s hy (g _ _ p) ⟨bs++[a],_,rfl,y.then A,am,by rw[Au];rfl,?_⟩⟩;rw[AN u,Bg,show [f].filter (fun q=>!decide (q=[]))=[f] by simp[h]];exact Tps.snoc (Paired.mapP (g.tps hb) fun c xs e=>keep _ c _ e) (keep _ a _ (g.tp w))
 ·rintro σ ys d ⟨bs,v,rfl,i,p,rfl,hb⟩
  rw[Ab,E,take_all] at hb;exact k bs d i p hb
def n9:zo ["piece","found","point"] ["piece"] (zf lu):=⟨rfl,rfl,rfl,δ,rfl,δ,δ⟩
def FN{f:Addr}{fd:FuncData}(F:Fun K "_law_parts" "_law_parts" lu f fd):FnOk P w K mg base aT 1 f fd ["piece"] n3:=by
 refine F.ok n9 (fun vs H Q E h=>?_) (fun cdv A outer s H vs Q E hr h=>?_)
 ·obtain⟨a,ps,rfl,_⟩:=h;rfl
 ·obtain⟨a,ps,rfl,G,M,k⟩:=h
  have N:=hr.units;refine⟨_,ze (zr (i:=1) n9.nd rfl (Or.inl rfl) (zI (ae (iD aq) aq)))
   (ze (ee Bc rfl (jk (pv 0)) (zn (i:=2) n9.nd rfl (Or.inr rfl))
    (zg (zr (i:=1) n9.nd rfl (Or.inl rfl) (zv eO (pv 1) (zz ["piece","found","point"] ["part","point"] [none,some 2] (zF (pv 1)) (fun j C s₀ H₀ ex=>zn (i:=0) (cz ["part","point"]) rfl (Or.inl rfl)) (fun j C s₀ H₀ ex=>zG)
     (fun j C s₀ H₀ ex=>zv rV (pv 0) (iD (ae (pv 1) aq))) (hfr:=fz (zf lu) δ))))))
   (zg (zp (zz ["piece","found","point"] ["part"] [none] (zF (pv 1)) (fun j C s₀ H₀ ex=>zn (i:=0) (cz ["part"]) rfl (Or.inl rfl)) (fun j C s₀ H₀ ex=>nk (zq (x5 N) (pv 0) (iD aq) (au _)))
     (fun j C s₀ H₀ ex=>pv 0) (hfr:=bP δ) (tc:=jm (cV (gE true K) (aY 0) (fo bJ))))))),?_⟩
  refine⟨zd (by simp),fun e he=>⟨zd (by simp),fun l c=>?_⟩⟩;have I:Same H (upd (upd H e (.tup [])) l (.lst [.ref e])):=(Same.new he).then ((Same.new he).free c);have O:e≠l:=zj (H:=upd H e (.tup [])) am c;refine⟨_,rfl,a,rfl,⟨_,SqT.of (I _ _ G)⟩,wG (K:=K) (a:=a) (xs:=ps.map V.int) (fun i σ H2=>∃l as v,σ=[some (.ref a),some (.ref l),v]/\Same H H2/\H l=none/\H2 l=some (.lst (as.map V.ref))/\Tps H2 as (subs (ps.take i)))
   ⟨l,[e],none,rfl,I,(Same.new he).free c,am,.cons (by show upd _ _ _ e=_;rw[zi O];exact am) .nil⟩ (fun i σ H2 _ ⟨_,_,_,_,d,_⟩=>SqT.of (d _ _ G)) ?_ ?_⟩
  ·rintro i x σ H2 hx ⟨l,as,v,rfl,d,r,c,ht⟩
   obtain⟨q,eq,rfl⟩:=iV hx;have hi:i<ps.length:=(List.getElem?_eq_some_iff.mp eq).1;have u:=ht.length;have T:as.length<=32:=by
    rw[u,nP,AI];exact fB ω
   have hm:∀f∈subs (ps.take i),f.length<=100:=fun f hf=>by
    have:=yp _ f hf;rw[AI] at this;omega
   refine⟨_,rfl,_,rfl,l,rfl,⟨_,SqL.of c⟩,fun D o=>zA (yA c ht ω hm o fun bs L g p hb=>?_)⟩;have S:=hb.length;rw[Ab] at S;refine⟨l,D,_,_,rfl,rfl,g _ _ c,p,by rw[Ab,Ab];exact zd ω,fun y z=>?_⟩;have J:H y=none:=(d.trans g).free z;refine⟨y,as++bs,_,rfl,(d.trans g).then J,J,by rw[am,Au],?_⟩;rw[AN eq,tN];exact(Same.new z).tps ((g.tps ht).append hb)
  ·rintro σ H2 ⟨l,as,v,rfl,d,r,c,ht⟩
   rw[Ab,take_all] at ht;have u:=ht.length;refine⟨_,rfl,l,rfl,⟨_,SqL.of c⟩,fun D o=>zA (FM c ht (by rw[u,nP];have:=fB M;omega) o fun bs L g p hb=>?_)⟩;rw[Fm] at hb;exact k D bs L (d.trans g) (d.free o) p hb
def FO{H2:Hp}{bs:List Addr}{fs:Ξ}{D l:Addr}{Q:VK}(F:H2 l=some (.lst (bs.map V.ref)))(ht:Tps H2 bs fs)(I:bs.length<=1000)(w:H2 D=none)(k:∀(cs:List Addr) a,Same H2 a->a D=some (.lst (cs.map V.ref))->cs.length=bs.length->(∀(i:Nat) c,cs[i]?=some c->∃b f,bs[i]?=some b/\fs[i]?=some f/\a c=some (.tup [.int f.length,.ref b]))->Q (.ref D) a):cw (du K l) (cm 0) bN (fo (zB (gb (fun xs H Q=>∃p ys,xs=[V.ref p]/\(SqL K H p ys\/SqT K H p ys)/\Q (.int ys.length) H) (zB (aY 0) bJ)) (zB (aY 0) bJ))) [none] H2 D Q:=by
 have G:=ht.length;refine zR (xs:=bs.map V.ref) (fun j σ ys a=>∃(cs:List Addr)(v:Option V),σ=[v]/\Same H2 a/\a D=some (.lst ys)/\ys=cs.map V.ref/\cs.length=j/\∀(i:Nat) c,cs[i]?=some c->∃b f,bs[i]?=some b/\fs[i]?=some f/\a c=some (.tup [.int f.length,.ref b])) ?_ ?_ ?_ ?_
 ·exact⟨[],none,rfl,Same.new w,am,rfl,rfl,fun i c e=>by simp at e⟩
 ·rintro j σ ys a ⟨cs,v,rfl,g,h,rfl,s,hc⟩
  exact SqL.of (g _ _ F)
 ·rintro j σ ys a x hx s hy ⟨cs,v,rfl,g,h,rfl,d,hc⟩
  obtain⟨b,u,rfl⟩:=dR hx;obtain⟨f,y,hf⟩:=ht.get u;refine cb ?_;refine⟨_,rfl,b,_,rfl,.inr (SqT.of (g.tp hf)),_,rfl,zd (by simp),fun t r=>?_⟩;rw[show(f.map V.int).length=f.length from Ab _];have q:Same a (upd a t (.tup [.int f.length,.ref b])):=Same.new r;have keep:∀(o:HO) c xs,upd a t (.tup [.int f.length,.ref b]) c=some (.tup xs)->upd (upd a t (.tup [.int f.length,.ref b])) D o c=some (.tup xs):=fun o c xs e=>by
   rw[zi (fH e (q _ _ h) (by intro z;cases z))];exact e
  refine bO (ys:=cs.map V.ref) (by rw[Ab];exact zd ω) s hy (q _ _ h) ⟨cs++[t],_,rfl,(g.trans q).then w,am,by rw[Au];rfl,by rw[Aq,d];rfl,fun i c e=>?_⟩
  by_cases hi:i<cs.length
  ·rw[List.getElem?_append_left hi] at e
   obtain⟨A,C,e1,e2,e3⟩:=hc i c e;exact⟨A,C,e1,e2,keep _ c _ (q _ _ e3)⟩
  ·rw[List.getElem?_append_right ω] at e
   have E:i-cs.length=0:=by
    rcases Nat.eq_zero_or_pos (i-cs.length) with z|z
    ·exact z
    ·rw[List.getElem?_eq_none (by simp only[Ap,List.length_nil];omega)] at e;cases e
   rw[E] at e;obtain rfl:t=c:=by simpa using e
   have:i=j:=ω
   subst this;exact⟨b,f,u,y,keep _ t _ am⟩
 ·rintro σ ys a ⟨cs,v,rfl,g,h,rfl,d,hc⟩
  rw[Ab] at d;exact k cs a g h d hc
def hX(H:Hp)(c:Addr):Addr:=match H c with
 |some (.tup [_,.ref b])=>b
 |_=>0
def FP{H2:Hp}{cs:List Addr}{D l:Addr}{Q:VK}(o:H2 l=some (.lst (cs.map V.ref)))(ht:∀c∈cs,∃n b,H2 c=some (.tup [.int n,.ref b]))(p:cs.length<=1000)(h:H2 D=none)(k:∀a,Same H2 a->a D=some (.lst (cs.map fun c=>V.ref (hX H2 c)))->Q (.ref D) a):cw (du K l) (cm 0) bN (cV (iG K) (aY 0) (tC (.int 1))) [none] H2 D Q:=by
 refine zR (xs:=cs.map V.ref) (fun j σ ys a=>∃v,σ=[v]/\Same H2 a/\a D=some (.lst ys)/\ys=(cs.take j).map fun c=>V.ref (hX H2 c)) ?_ ?_ ?_ ?_
 ·exact⟨none,rfl,Same.new h,am,rfl⟩
 ·rintro j σ ys a ⟨v,rfl,d,f,rfl⟩
  exact SqL.of (d _ _ o)
 ·rintro j σ ys a x hx i hy ⟨v,rfl,d,f,rfl⟩
  obtain⟨c,g,rfl⟩:=dR hx;obtain⟨n,b,e⟩:=ht c (Az g);refine cb ?_;refine⟨_,rfl,c,_,_,_,rfl,rfl,SqT.of (d _ _ e),eN (j:=1) rfl,bO (by rw[Ab];exact zd ω) i hy f ⟨_,rfl,d.then h,am,?_⟩⟩;rw[AN g,Au];have:hX H2 c=b:=by unfold hX;rw[e]
  rw[<-this];rfl
 ·rintro σ ys a ⟨v,rfl,d,f,rfl⟩
  rw[Ab,take_all] at f;exact k a d f
def lv:zo ["web","found","piece","part","ranked"] ["web"] (zf n8):=⟨rfl,rfl,rfl,δ,rfl,δ,δ⟩
def FQ{f fp:Addr}{fd cA:FuncData}(F:Fun K "_law_pieces" "_law_pieces" n8 f fd)(B:Bt mg)(Fp:Fun K "_law_parts" "_law_parts" lu fp cA)(bp:Binds K cA ["piece"] [])(mp:mg "_law_parts"=some (.ref fp)):FnOk P w K mg base aT 2 f fd ["web"] (jJ K):=by
 have Gp:FnOk P w K mg base aT 1 fp cA ["piece"] n3:=FN Fp;refine F.ok lv (fun vs H Q E h=>?_) (fun cdv A outer s H vs Q E hr h=>?_)
 ·obtain⟨l,as,pss,rfl,_⟩:=h;rfl
 ·obtain⟨l,as,pss,rfl,hl,ht,h5,h20,b_,k⟩:=h
  have hu:=mO hr;have bC:=hr.units;refine⟨_,ze (zr (i:=1) lv.nd rfl (Or.inl rfl) rg)
   (ze (ee Bc rfl (zF (pv 0)) (zn (i:=2) lv.nd rfl (Or.inl rfl))
    (zg (ee Bc rfl (zF (zx Gp hr rfl mp Fp.kp bp .nil aw (ae (pv 2) aq))) (zn (i:=3) lv.nd rfl (Or.inl rfl))
     (zg (mN hu (pv 1) (pv 3) fI rfl)))))
   (ze (zr (i:=4) lv.nd rfl (Or.inl rfl) (zm (EH bC) rfl B.sorted nY (ae
    (zz ["web","found","piece","part","ranked"] ["piece"] [none] (zF (zw (xS rfl) rfl B.list ue (ae (pv 1) aq))) (fun L C s₀ H₀ ex=>zn (i:=0) (cz ["piece"]) rfl (Or.inl rfl)) (fun L C s₀ H₀ ex=>zG)
     (fun L C s₀ H₀ ex=>iD (ae (zm zl rfl B.len cP (ae (pv 0) aq)) (ae (pv 0) aq))) (hfr:=bP δ) (te:=fo (zB (gb (fun xs H Q=>∃p ys,xs=[V.ref p]/\(SqL K H p ys\/SqT K H p ys)/\Q (.int ys.length) H) (zB (aY 0) bJ)) (zB (aY 0) bJ)))) aq)))
   (zg (zp (zz ["web","found","piece","part","ranked"] ["one"] [none] (zF (pv 4)) (fun L C s₀ H₀ ex=>zn (i:=0) (cz ["one"]) rfl (Or.inl rfl)) (fun L C s₀ H₀ ex=>zG)
     (fun L C s₀ H₀ ex=>cQ qr (pv 0) zh (fun _ _=>rfl)) (hfr:=bP δ) (te:=cV (iG K) (aY 0) (tC (.int 1)))))))),?_⟩
  intro d hd;have aQ:=ht.length;refine⟨_,rfl,l,rfl,⟨_,(Same.new hd).seq hl⟩,f_ (K:=K) (a:=l) (xs:=as.map V.ref) (fun i σ H2=>∃v I u,σ=[some (.ref l),some (.ref d),v,I,u]/\Same H H2/\H2 d=some (.dT (c6 ((pss.take i).flatMap parts))))
   ⟨none,none,none,rfl,Same.new hd,am⟩ (fun i σ H2 _ ⟨_,_,_,_,r,_⟩=>r.seq hl) ?_ ?_⟩
  ·rintro i x σ H2 hx ⟨v,I,u,rfl,r,N⟩
   obtain⟨a,ea,rfl⟩:=dR hx;obtain⟨ps,Z,cS⟩:=ht.get ea;have cO:=h5 ps (Az Z);have hi:i<pss.length:=(List.getElem?_eq_some_iff.mp Z).1;refine⟨_,rfl,a,ps,rfl,r.tp cS,cO,fun D cs o G dG M cN=>⟨D,rfl,⟨_,SqL.of M⟩,?_⟩⟩;have jD:=cN.length;have iT:D≠d:=fH M (G _ _ N) (by intro z;cases z);refine f_ (K:=K) (a:=D) (xs:=cs.map V.ref) (fun j σ J=>∃I,σ=[some (.ref l),some (.ref d),some (.ref a),I,u]/\Same H J/\J D=some (.lst (cs.map V.ref))/\Tps J cs (parts ps)/\J d=some (.dT (c6 ((pss.take i).flatMap parts++(parts ps).take j))))
    ⟨_,rfl,r.trans G,M,cN,by rw[List.take_zero,List.append_nil];exact G _ _ N⟩ (fun j σ J _ ⟨_,_,_,q,_⟩=>SqL.of q) ?_ ?_
   ·rintro j x σ J hx ⟨I,rfl,aA,bF,bI,O⟩
    obtain⟨c,ec,rfl⟩:=dR hx;obtain⟨f,ef,hf⟩:=bI.get ec;have S:(c6 ((pss.take i).flatMap parts++(parts ps).take j)).length<sizeLine:=by
     refine fA (AA (ux _) ?_);rw[Aq];have h1:=yD (pss.take i) (fun q hq=>h5 q (List.mem_of_mem_take hq));have h2:=iS ps;have Y:=fB cO;rw[AI] at h1 ⊢;omega
    refine⟨_,rfl,_,rfl,d,_,rfl,DPut.t (k:=f.map Sum.inl) O (by rw[AK];exact hf) S,⟨_,rfl,aA.then hd,?_,?_,?_⟩⟩
    ·rw[zi iT];exact bF
    ·exact Tps.upd bI O (by intro xs z;cases z)
    ·rw[am,uQ,AY,<-AN ef]
   ·rintro σ J ⟨I,rfl,aA,bF,bI,O⟩
    refine⟨_,_,_,rfl,aA,?_⟩;rw[Ab,jD,take_all] at O;rw[yE Z];exact O
  ·rintro σ H2 ⟨v,I,u,rfl,r,N⟩
   rw[Ab,aQ,take_all] at N;refine⟨_,rfl,d,_,rfl,N,fun bs hb l2 bY=>?_⟩;have tb:=yC hb;have gO:=tb.length;have eQ:(dd (pss.flatMap parts)).length<=1000:=ω
   have W:Same H2 (upd H2 l2 (.lst (bs.map V.ref))):=Same.new bY;refine⟨l2,rfl,⟨_,SqL.of am⟩,fun D M=>zA (FO (K:=K) am (W.tps tb) ω M fun cs o G ah hcl hc=>?_)⟩;have nS:=G.tps (W.tps tb);refine⟨D,cs,(dd (pss.flatMap parts)).map fun f=>((f.length:Int)::f),rfl,SqL.of ah,?_,(by rw[Ab];exact b_),fun R g hp hs hR=>?_⟩
   ·refine Paired.of_at (by rw[Ab];omega) fun i c y e1 e2=>?_
    obtain⟨b,f,g1,g2,g3⟩:=hc i c e1;rw[Ar,g2] at e2;obtain rfl:=As e2;exact⟨_,b,f,rfl,g3,kX nS i b f g1 g2⟩
   ·have T:Same o (upd o R (.lst (g.map fun q=>V.ref q.2))):=Same.new hR
    have hq:∀q∈g,∃b f,q.1=((f:List Int).length:Int)::f/\o q.2=some (.tup [.int f.length,.ref b])/\Tp o b f:=fun q hq=>by
     obtain⟨m,em⟩:=List.mem_iff_getElem?.mp (hp.mem_iff.mp hq);rw[bu.bK,Ar] at em;cases e2:cs[m]? with
     |none=>rw[e2] at em;cases h:(dd (pss.flatMap parts))[m]?<;>rw[h] at em<;>cases em
     |some c=>
      obtain⟨b,f,g1,g2,g3⟩:=hc m c e2;rw[g2,e2] at em;obtain rfl:(((f.length:Int)::f),c)=q:=As em;exact⟨b,f,rfl,g3,kX nS m b f g1 g2⟩
    have hql:g.length<=1000:=by rw[hp.length_eq,List.length_zip,Ab];omega
    refine⟨_,rfl,R,rfl,⟨_,SqL.of am⟩,fun D2 bT=>zA (FP (K:=K) (cs:=g.map (·.2)) (by rw[am,AK];rfl) (fun c rW=>?_) (by rw[Ab];omega) bT fun H5 bR fm=>?_)⟩
    ·obtain⟨q,X,rfl⟩:=List.mem_map.mp rW
     obtain⟨b,f,_,g2,_⟩:=hq q X;exact⟨_,b,T _ _ g2⟩
    ·have sAll:Same H H5:=((r.trans W).trans G).trans (T.trans bR)
     have snd:∀q∈g,∀b f,o q.2=some (.tup [.int (f:List Int).length,.ref b])->hX (upd o R (.lst (g.map fun q=>V.ref q.2))) q.2=b:=fun q _ b f e=>by
      unfold hX;rw[T _ _ e]
     refine k D2 H5 (g.map fun q=>(q.1.tail,hX (upd o R (.lst (g.map fun q=>V.ref q.2))) q.2)) ⟨sAll,(((r.trans W).trans G).trans T).free bT,?_,fun q X=>?_,?_,?_⟩
     ·rw[fm,AK,AK];rfl
     ·obtain⟨U,h0,rfl⟩:=List.mem_map.mp X
      obtain⟨b,f,g1,g2,g3⟩:=hq U h0;show Tp H5 (hX _ U.2) U.1.tail;rw[snd U h0 b f g2,g1];exact bR.tp (T.tp g3)
     ·rw[AK]
      have h1:=hp.map (fun q:List Int×Addr=>q.1.tail);have e:((((dd (pss.flatMap parts)).map fun f=>((f.length:Int)::f)).zip cs).map fun q:List Int×Addr=>q.1.tail)=dd (pss.flatMap parts):=by
       rw[show(fun q:List Int×Addr=>q.1.tail)=(fun l:List Int=>l.tail) ∘ Prod.fst from rfl,<-AK,List.map_fst_zip (by rw[Ab];omega),AK];exact List.map_id' _
      rw[e] at h1;exact h1
     ·rw[List.pairwise_map]
      refine hs.imp_of_mem fun{p q} h1 h2 Y=>?_;obtain⟨_,f,g1,_⟩:=hq p h1;obtain⟨_,f',oY,_⟩:=hq q h2;rw[g1,oY] at Y;rw[g1,oY];exact Y
end
end K8
end
section
namespace K8
open K1
open PySem L2 STb
abbrev n_:Stmt:=top 45
abbrev lD:Stmt:=top 46
def texts:List Str:=(["","0","01 12 02","012 013 023 123","01 02 03","012 023 034 014","0123","01 23 45","012 34"]:List Str)++(["012 123 234 034 014","01 12 23 03 13","012 013 014","0 1 2 3"]:List Str)++(["01 12 02 34 45 35","023 234 1"]:List Str)
++(["014 015 023 025 034 123 124 135 245 345","012 013 024 034 125 135 245 345"]:List Str)++(["01234","0123 0124 0134 0234 1234"]:List Str)++(["013 123 234 024 014 145 125 025 056 016 126 267 027 037 345 356 367"]:List Str)
def wordsOf(n:Nat):List Str:=Aw (texts.getD n "") " "
def digits(x:Str):List Int:=x.cps.toList.map fun(c:Nat)=>((c:Int)-48)
def known(n:Nat):Ξ:=((wordsOf n).filter fun(x:Str)=>!decide (x="")).map digits
def FR:∀n,n<20->(texts.getD n "").length+2<=1000/\(wordsOf n).length<=20/\∀x∈wordsOf n,x.cps.size<=5/\∀c∈x.cps.toList,48<=c/\c<=57:=δ
def FS:∀c,48<=c->c<=57->intText? ⟨#[c]⟩=some ((c:Int)-48):=by
 intro c h1 h2;have:∀c,c<58->48<=c->intText? ⟨#[c]⟩=some ((c:Int)-48):=δ
 exact this c ω h1
section
variable{P:Program}{w:World}{K:Ae}{mg:Str->Option Value}{base:Heap}
def yJ:Sp:=fun vs H Q _=>∃n:Nat,vs=[.int n]/\n<20/\∀D as H',Same H H'->H D=none->H' D=some (.lst (as.map V.ref))->Tps H' as (known n)->Q (.ref D) H'
def hY:zo ["number","some","web","word"] ["number"] (zf n_):=⟨rfl,rfl,rfl,δ,rfl,δ,δ⟩
def FT{H2:Hp}{x:Str}{D:Addr}{Q:VK}(hx:x.cps.size<=5)(hc:∀c∈x.cps.toList,48<=c/\c<=57)(h:H2 D=none)(k:∀a,Same H2 a->a D=some (.lst ((digits x).map V.int))->Q (.ref D) a):cw (jF x) (cm 0) bN (gb (fun xs H Q=>∃x n,xs=[.str x]/\intText? x=some n/\x.length<=640/\Q (.int n) H) (zB (aY 0) bJ)) [none] H2 D Q:=by
 refine tL (fun j σ ys a=>∃v,σ=[v]/\Same H2 a/\a D=some (.lst ys)/\ys=((digits x).take j).map V.int) ?_ ?_ ?_
 ·exact⟨none,rfl,Same.new h,am,rfl⟩
 ·rintro j σ ys a c i l hy ⟨v,rfl,g,f,rfl⟩
  have d:x.cps.toList[j]?=some c:=by simpa using i
  obtain⟨o,p⟩:=hc c (Az d);refine cb ?_;refine⟨_,rfl,⟨#[c]⟩,_,rfl,FS c o p,by show 1<=640;decide,bO (zd ω) l hy f ⟨_,rfl,g.then h,am,?_⟩⟩;have e:(digits x)[j]?=some ((c:Int)-48):=by unfold digits;rw[Ar,d];rfl
  rw[AN e,Au];rfl
 ·rintro σ ys a ⟨v,rfl,g,f,rfl⟩
  rw[At (by unfold digits;simp)] at f;exact k a g f
def FU{f:Addr}{fd:FuncData}(F:Fun K "_law_known" "_law_known" n_ f fd)(B:Bt mg):FnOk P w K mg base aT 1 f fd ["number"] yJ:=by
 refine F.ok hY (fun vs H Q E h=>?_) (fun cdv A outer s H vs Q E hr h=>?_)
 ·obtain⟨n,rfl,_⟩:=h;rfl
 ·obtain⟨n,rfl,hn,k⟩:=h
  refine⟨_,ze (zr (i:=1) hY.nd rfl (Or.inl rfl) (zI (ae pe_str (ae pe_str (ae pe_str (ae pe_str (ae pe_str (ae pe_str (ae pe_str (ae pe_str (ae pe_str aq)))))))))))
   (ze (zr (i:=1) hY.nd rfl (Or.inl rfl) (zv eO (pv 1) (zI (ae pe_str (ae pe_str (ae pe_str (ae pe_str aq)))))))
   (ze (zr (i:=1) hY.nd rfl (Or.inl rfl) (zv eO (pv 1) (zI (ae pe_str (ae pe_str aq)))))
   (ze (zr (i:=1) hY.nd rfl (Or.inl rfl) (zv eO (pv 1) (zI (ae pe_str (ae pe_str aq)))))
   (ze (zr (i:=1) hY.nd rfl (Or.inl rfl) (zv eO (pv 1) (zI (ae pe_str (ae pe_str aq)))))
   (ze (fM (zW AU PySem.F.slot_list_append PySem.F.type_list_append gC (pv 1) (ae pe_str aq)))
   (ze (zr (i:=2) hY.nd rfl (Or.inl rfl) (zI aq))
   (ze (ee Bc rfl (zF (zW AG PySem.F.slot_str_split PySem.F.type_str_split iR (cQ zX (pv 1) (zv iB (pv 0) zh) (fun _ _=>rfl)) (ae pe_str aq))) (zn (i:=3) hY.nd rfl (Or.inl rfl))
    (zg (zS (zq pu (pv 3) pe_str (au _))
     (zg (fM (zW AU PySem.F.slot_list_append PySem.F.type_list_append gC (pv 2) (ae (zw kE rfl B.tuple lm (ae
      (zz ["number","some","web","word"] ["sign"] [none] (tH (pv 3)) (fun J C s₀ H₀ ex=>zn (i:=0) (cz ["sign"]) rfl (Or.inl rfl)) (fun J C s₀ H₀ ex=>zG)
       (fun J C s₀ H₀ ex=>zw sk rfl B.int ul (ae (pv 0) aq)) (hfr:=bP δ)) aq)) aq)))) zt)))
   (zg (zp (pv 2)))))))))),?_⟩
  have t20:texts.length=20:=rfl;have cJ:atI (texts.map V.str) ((n:Int)%20)=some (.str (texts.getD n "")):=by
   rw[show(n:Int)%20=(n:Int) from ω];refine eN ?_;have e:texts[n]?=some texts[n]:=Ao ω;rw[Ar,List.getD_eq_getElem?_getD,e];rfl
  obtain⟨g1,g2,g3⟩:=FR n hn;refine⟨zd (by simp),fun Y h1=>?_⟩;have s1:=Same.new (H:=H) (o:=.lst [.str "",.str "0",.str "01 12 02",.str "012 013 023 123",.str "01 02 03",.str "012 023 034 014",.str "0123",.str "01 23 45",.str "012 34"]) h1;refine⟨_,rfl,zd (by simp),fun Z L=>⟨Y,Z,_,_,rfl,rfl,Same.new L _ _ am,am,zd (by simp),fun l2 h2=>?_⟩⟩;have s2:=(s1.trans (Same.new L)).trans (Same.new (o:=.lst ((texts.take 13).map V.str)) h2);refine⟨_,rfl,zd (by simp),fun m2 M=>⟨l2,m2,_,_,rfl,rfl,Same.new M _ _ am,am,zd (by simp),fun l3 h3=>?_⟩⟩;have s3:=(s2.trans (Same.new M)).trans (Same.new (o:=.lst ((texts.take 15).map V.str)) h3);refine⟨_,rfl,zd (by simp),fun m3 N=>⟨l3,m3,_,_,rfl,rfl,Same.new N _ _ am,am,zd (by simp),fun l4 h4=>?_⟩⟩;have T:=(s3.trans (Same.new N)).trans (Same.new (o:=.lst ((texts.take 17).map V.str)) h4);refine⟨_,rfl,zd (by simp),fun m4 u=>⟨l4,m4,_,_,rfl,rfl,Same.new u _ _ am,am,zd (by simp),fun d O=>?_⟩⟩;have s5:=(T.trans (Same.new u)).trans (Same.new (o:=.lst ((texts.take 19).map V.str)) O);have qa:H d=none:=(T.trans (Same.new u)).free O;refine⟨_,rfl,.inl ⟨rfl,_,SqL.of am⟩,d,_,_,rfl,rfl,am,fA (by simp),zd (by simp),fun c g=>?_⟩;generalize hH6:upd (upd _ d _) d _=H6 at g;have e6:H6 d=some (.lst (texts.map V.str)):=by rw[<-hH6,am];rfl
  have U:Same H H6:=by
   rw[<-hH6];exact s5.then qa
  have j:H c=none:=U.free g;have W:Same H (upd H6 c (.lst [])):=U.then j;have e7:upd H6 c (.lst []) d=some (.lst (texts.map V.str)):=Same.new g _ _ e6;refine⟨_,rfl,_,rfl,_,_,rfl,rfl,(by show(0:Int)<20;decide),d,_,_,_,rfl,rfl,SqL.of e7,cJ,rfl,_,_,rfl,rfl,ξ,zd ω,zd (show(wordsOf n).length<=100000 from ω),fun D S=>⟨D,rfl,⟨_,SqL.of am⟩,?_⟩⟩;have X:c≠D:=zj (H:=upd H6 c (.lst [])) am S;have dG:H D=none:=W.free S;refine f_ (K:=K) (a:=D) (xs:=(wordsOf n).map V.str) (fun i σ H2=>∃as v,σ=[some (.int n),some (.ref d),some (.ref c),v]/\Same H H2/\H2 D=some (.lst ((wordsOf n).map V.str))/\H2 c=some (.lst (as.map V.ref))/\Tps H2 as ((((wordsOf n).take i).filter fun(x:Str)=>!decide (x="")).map digits))
   ⟨[],none,rfl,W.then dG,am,by rw[zi X];exact am,.nil⟩ (fun i σ H2 _ ⟨_,_,_,_,q,_⟩=>SqL.of q) ?_ ?_
  ·rintro i x σ H2 hx ⟨as,v,rfl,r,I,l,ht⟩
   rw[Ar] at hx;cases ex:(wordsOf n)[i]? with
   |none=>rw[ex] at hx;cases hx
   |some y=>
    rw[ex] at hx;obtain rfl:=As hx;have hi:i<(wordsOf n).length:=(List.getElem?_eq_some_iff.mp ex).1;obtain⟨y5,yc⟩:=g3 y (Az ex);refine⟨_,rfl,rfl,_,rfl,?_⟩
    by_cases hy:y=""
    ·subst hy
     refine bg ⟨as,_,rfl,r,I,l,?_⟩;rw[AN ex,Bg,Au]
     simpa using ht
    ·rw[show(!decide (V.str y=V.str ""))=true from by simp[hy]]
     refine be ⟨_,rfl,.inl ⟨rfl,_,SqL.of l⟩,_,rfl,y,rfl,fun D2 rh=>zA (FT y5 yc rh fun H3 aB ah=>⟨D2,_,rfl,.inl ⟨SqL.of ah,fun t G=>?_⟩⟩)⟩;have p:Same H2 (upd H3 t (.tup ((digits y).map V.int))):=aB.trans (Same.new G);have aQ:=ht.length;have gM:as.length<=20:=by
      rw[aQ,Ab];exact AA (List.length_filter_le _ _) (by rw[AI];omega)
     refine⟨c,_,_,rfl,rfl,p _ _ l,fA (by rw[Ab];omega),⟨as++[t],_,rfl,(r.trans p).then j,?_,by rw[am,Au];rfl,?_⟩⟩
     ·rw[zi X.symm];exact p _ _ I
     ·rw[AN ex,Bg,Au,show [y].filter (fun(x:Str)=>!decide (x=""))=[y] by simp[hy]]
      exact Tps.upd (Tps.snoc (p.tps ht) am) (p _ _ l) (by intro xs z;cases z)
  ·rintro σ H2 ⟨as,v,rfl,r,I,l,ht⟩
   rw[Ab,take_all] at ht;exact⟨_,rfl,k c as H2 r j l ht⟩
def cY(first a:Int)(ps:List Int):List Int:=ps.map fun x=>first+a*x
def yK:Sp:=fun vs H Q _=>∃p l as pss,vs=[.ref p,.ref l]/\zD H p/\H l=some (.lst (as.map V.ref))/\Tps H as pss/\pss.length<=20/\(∀ps∈pss,ps.length<=10)/\
 ∀D bs c first a H',zP p H H'->zD H' p->H D=none->H' D=some (.lst (bs.map V.ref))->Tps H' bs c->0<=first->first<12->1<=a->a<=3->c.Perm (pss.map (cY first a))->Q (.ref D) H'
def lE:zo ["box","web","gap","first","found","piece"] ["box","web"] (zf lD):=⟨rfl,rfl,rfl,δ,rfl,δ,δ⟩
def FV{H2:Hp}{a D:Addr}{ps:List Int}{first d:Int}{Q:VK}(o:Tp H2 a ps)(p:ps.length<=10)(r:1<=d/\d<=3)(h:H2 D=none)(k:∀c,Same H2 c->c D=some (.lst ((cY first d ps).map V.int))->Q (.ref D) c):cw (gm K a) (cm 0) bN (cV (fg fun i j=>.int (i+j)) (aY 1) (cV (rI CMul fun i j=>.int (i*j)) (aY 2) (aY 0))) [none,some (.int first),some (.int d)] H2 D Q:=by
 refine rN (xs:=ps.map V.int) (fun j σ ys c=>∃v,σ=[v,some (.int first),some (.int d)]/\Same H2 c/\c D=some (.lst ys)/\ys=((cY first d ps).take j).map V.int) ?_ ?_ ?_ ?_
 ·exact⟨none,rfl,Same.new h,am,rfl⟩
 ·rintro j σ ys c ⟨v,rfl,f,g,rfl⟩
  exact SqT.of (f.tp o)
 ·rintro j σ ys c x hx l hy ⟨v,rfl,f,g,rfl⟩
  obtain⟨q,eq,rfl⟩:=iV hx;refine cb ?_;refine⟨_,rfl,_,rfl,_,rfl,_,_,rfl,rfl,.inl ⟨ω,ω⟩,_,_,rfl,rfl,bO (by rw[Ab];exact zd ω) l hy g ⟨_,rfl,f.then h,am,?_⟩⟩;have e:(cY first d ps)[j]?=some (first+d*q):=by unfold cY;rw[Ar,eq];rfl
  rw[AN e,Au];rfl
 ·rintro σ ys c ⟨v,rfl,f,g,rfl⟩
  rw[At (by unfold cY;simp)] at g;exact k c f g
def FW{f T:Addr}{fd U:FuncData}(F:Fun K "_law_named" "_law_named" lD f fd)(B:Bt mg)(Ft:Fun K "_law_take" "_law_take" lr T U)(W:Binds K U ["box","most"] [])(mt:mg "_law_take"=some (.ref T)):FnOk P w K mg base aT 2 f fd ["box","web"] yK:=by
 have X:FnOk P w K mg base aT 1 T U ["box","most"] gh:=u4 Ft;refine F.ok lE (fun vs H Q E h=>?_) (fun cdv A outer s H vs Q E hr h=>?_)
 ·obtain⟨p,l,as,pss,rfl,_⟩:=h;rfl
 ·obtain⟨p,l,as,pss,rfl,hb,N,ht,h20,lK,k⟩:=h
  refine⟨_,ze (zr (i:=2) lE.nd rfl (Or.inr rfl) (zv dD zh (zx X hr rfl mt Ft.kp W .nil aw (ae (pv 0) (ae zh aq)))))
   (ze (zr (i:=3) lE.nd rfl (Or.inr rfl) (zx X hr rfl mt Ft.kp W .nil aw (ae (pv 0) (ae zh aq))))
   (ze (zr (i:=4) lE.nd rfl (Or.inl rfl) (zI aq))
   (ze (ee Bc rfl (zF (pv 1)) (zn (i:=5) lE.nd rfl (Or.inl rfl))
    (zg (fM (zW AU PySem.F.slot_list_insert PySem.F.type_list_insert sj (pv 4)
     (ae (zx X hr rfl mt Ft.kp W .nil aw (ae (pv 0) (ae (zv dD (zm zl rfl B.len cP (ae (pv 4) aq)) zh) aq)))
     (ae (zw kE rfl B.tuple lm (ae
      (zz ["box","web","gap","first","found","piece"] ["point","first","gap"] [none,some 3,some 2] (jk (pv 5)) (fun Y C s₀ H₀ ex=>zn (i:=0) (cz ["point","first","gap"]) rfl (Or.inl rfl)) (fun Y C s₀ H₀ ex=>zG)
       (fun Y C s₀ H₀ ex=>zv dD (pv 1) (zv iA (pv 2) (pv 0))) (hfr:=fz (zf lD) δ)) aq)) aq))))))
   (zg (zp (pv 4)))))),?_⟩
  refine⟨_,rfl,p,3,rfl,hb,ξ,ξ,fun d H1 a1 a2 fE J=>⟨_,_,rfl,rfl,?_⟩⟩;refine⟨_,rfl,p,12,rfl,J,ξ,ξ,fun e H2 c1 c2 i8 Z=>⟨zd (by simp),fun D hD=>?_⟩⟩;have S:=fE.trans i8;have G:H D=none:=S.free hb Z hD;have oJ:l≠p:=hb.ne N;have aQ:=ht.length;refine⟨_,rfl,l,rfl,⟨_,SqL.of ((S.then G) _ _ oJ N)⟩,f_ (K:=K) (a:=l) (xs:=as.map V.ref) (fun i σ g=>∃bs c v,σ=[some (.ref p),some (.ref l),some (.int (1+d)),some (.int e),some (.ref D),v]/\zP p H g/\zD g p/\g D=some (.lst (bs.map V.ref))/\Tps g bs c/\c.Perm ((pss.take i).map (cY e (1+d))))
   ⟨[],[],none,rfl,S.then G,Z.new hD,am,.nil,List.Perm.nil⟩ (fun i σ g _ ⟨_,_,_,_,sb,_⟩=>SqL.of (sb _ _ oJ N)) ?_ ?_⟩
  ·rintro i x σ g hx ⟨bs,c,v,rfl,y,o,j,hq,hp⟩
   obtain⟨a,ea,rfl⟩:=dR hx;obtain⟨ps,O,cS⟩:=ht.get ea;have hi:i<pss.length:=(List.getElem?_eq_some_iff.mp O).1;have gO:=hq.length;have hql:c.length=i:=by rw[hp.length_eq,Ab,AI];omega
   have q:D≠p:=o.ne j;refine⟨_,rfl,.inl ⟨rfl,_,SqL.of j⟩,_,rfl,_,rfl,D,_,rfl,.inl (SqL.of j),_,_,rfl,rfl,p,_,rfl,o,by rw[Ab];omega,by rw[Ab];omega,fun r H4 r0 qb u L=>?_⟩;rw[Ab] at qb;have jO:Tp H4 a ps:=(y.trans u).tp hb cS;refine⟨_,rfl,a,rfl,⟨_,SqT.of jO⟩,fun D2 bT=>zA (FV jO (lK ps (Az O)) ⟨ω,ω⟩ bT fun H5 bR fm=>⟨D2,_,rfl,.inl ⟨SqL.of fm,fun t M=>?_⟩⟩)⟩;have I:Same H4 (upd H5 t (.tup ((cY e (1+d) ps).map V.int))):=bR.trans (Same.new M);have bF:=u _ _ q j;have kf:=I _ _ bF;have ik:=L.same I;refine⟨D,_,r,_,rfl,rfl,kf,r0,by rw[Ab];omega,fA (by rw[Ab];omega),⟨bs.take r.toNat++t::bs.drop r.toNat,c.take r.toNat++cY e (1+d) ps::c.drop r.toNat,_,rfl,((y.trans u).trans (zP.of I)).then G,ik.upd q,?_,?_,?_⟩⟩
   ·rw[am,Au,AT,List.map_take,List.map_drop]
   ·have tq:=I.tps (u.tps o hq)
    exact Tps.upd (Tps.append (tq.take _) (.cons am (tq.drop _))) kf (by intro xs z;cases z)
   ·rw[AN O,Au]
    have h1:(c.take r.toNat++cY e (1+d) ps::c.drop r.toNat).Perm (cY e (1+d) ps::c):=by
     have:=List.perm_middle (a:=cY e (1+d) ps) (l₁:=c.take r.toNat) (l₂:=c.drop r.toNat)
     rwa [AX] at this
    exact h1.trans ((List.perm_append_singleton _ _).symm.trans (List.Perm.append_right _ hp))
  ·rintro σ g ⟨bs,c,v,rfl,y,o,j,hq,hp⟩
   rw[Ab,aQ,take_all] at hp;exact⟨_,rfl,k D bs c e (1+d) g y o G j hq c1 c2 ω ω hp⟩
end
end K8
end
section
namespace K8
open K1
open PySem L2 STb
abbrev iY:Stmt:=top 47
def gi(seq:List Int):List (Key×V):=(dd seq).map fun n=>((Sum.inl n:Key),V.bl true)
def FX(seq:List Int):(gi seq).length<=seq.length:=by unfold gi;rw[Ab];exact gI seq
def FY(seq:List Int)(n:Int):putK (gi seq) (Sum.inl n) (.bl true)=gi (seq++[n]):=by
 unfold putK gi;rw[jE];have c:(((dd seq).map fun n=>((Sum.inl n:Key),V.bl true)).any fun a=>decide (a.1=Sum.inl n))=decide (n∈dd seq):=by
  rw[List.any_map]
  by_cases h:n∈dd seq
  ·rw[decide_eq_true h,List.any_eq_true]
   exact⟨n,h,by simp⟩
  ·rw[decide_eq_false h,List.any_eq_false]
   intro q hq;simp only[Function.comp,decide_eq_true_eq,Sum.inl.injEq];rintro rfl;exact h hq
 rw[c]
 by_cases h:n∈dd seq
 ·rw[decide_eq_true h,if_pos rfl,if_pos h,AK]
  refine List.map_congr_left fun q hq=>?_;simp only[Function.comp];split<;>rfl
 ·rw[decide_eq_false h,if_neg (by simp),if_neg h,Au]
  rfl
def FZ(seq:List Int):((gi seq).map fun a=>kV a.1)=(dd seq).map V.int:=by unfold gi;rw[AK];rfl
def yL{c:List Int}(h1:c.Pairwise (·<=·))(h2:c.Nodup):aX c=true:=by
 rw[t1];intro i a b f hb;obtain⟨d,g⟩:=List.getElem?_eq_some_iff.mp f;obtain⟨e,h⟩:=List.getElem?_eq_some_iff.mp hb;have g1:=List.pairwise_iff_getElem.mp h1 i (i+1) d e ω;have g2:=List.pairwise_iff_getElem.mp h2 i (i+1) d e ω;rw[g,h] at g1 g2;omega
def ig(pss:Ξ):Prop:=pss.Nodup/\∀ps∈pss,ps≠[]/\ps.length<=4/\aX ps=true/\∀x∈ps,0<=x/\x<=5
def Base(b:Ξ):Prop:=(∃n,n<20/\b=known n)\/(b.length<=5/\ig b)
def Drawn(c:Ξ):Prop:=∃b first a,Base b/\0<=first/\first<12/\1<=a/\a<=3/\c.Perm (b.map (cY first a))
def F0:∀n,n<20->(known n).length<=20/\∀ps∈known n,ps≠[]/\ps.length<=5:=δ
section
variable{P:Program}{w:World}{K:Ae}{mg:Str->Option Value}{base:Heap}
def yM:Sp:=fun vs H Q _=>∃p,vs=[.ref p]/\zD H p/\∀D bs a H',zP p H H'->zD H' p->H D=none->H' D=some (.lst (bs.map V.ref))->Tps H' bs a->Drawn a->Q (.ref D) H'
def jK:zo ["box","found","k","some","j","piece"] ["box"] (zf iY):=⟨rfl,rfl,rfl,δ,rfl,δ,δ⟩
def F4{f ft fn fk:Addr}{fd dP nr cM:FuncData}(F:Fun K "_law_web" "_law_web" iY f fd)(B:Bt mg)(Ft:Fun K "_law_take" "_law_take" lr ft dP)(W:Binds K dP ["box","most"] [])(mt:mg "_law_take"=some (.ref ft))(Fn:Fun K "_law_named" "_law_named" lD fn nr)(bn:Binds K nr ["box","web"] [])(mn:mg "_law_named"=some (.ref fn))(Fk:Fun K "_law_known" "_law_known" n_ fk cM)(bk:Binds K cM ["number"] [])(mk:mg "_law_known"=some (.ref fk)):FnOk P w K mg base aT 3 f fd ["box"] yM:=by
 have Gt:FnOk P w K mg base aT 1 ft dP ["box","most"] gh:=u4 Ft;have Gn:FnOk P w K mg base aT 2 fn nr ["box","web"] yK:=FW Fn B Ft W mt;have Gk:FnOk P w K mg base aT 1 fk cM ["number"] yJ:=FU Fk B;refine F.ok jK (fun vs H Q E h=>?_) (fun cdv A outer s H vs Q E hr h=>?_)
 ·obtain⟨p,rfl,_⟩:=h;rfl
 ·obtain⟨p,rfl,hb,k⟩:=h
  have hu:=mO hr;have bC:=hr.units;have q:Room 1 _:=hr.mono ξ;refine⟨_,ze (zS (zq dI (zx Gt q rfl mt Ft.kp W .nil aw (ae (pv 0) (ae zh aq))) zh (au _))
    (zg (zp (zx Gn hr rfl mn Fn.kp bn .nil aw (ae (pv 0) (ae (zx Gk q rfl mk Fk.kp bk .nil aw (ae (zx Gt q rfl mt Ft.kp W .nil aw (ae (pv 0) (ae zh aq))) aq)) aq))))) zt)
   (ze (zr (i:=1) jK.nd rfl (Or.inl rfl) (zI aq))
   (ze (ee Bc rfl (gT rfl B.range (ae (zx Gt q rfl mt Ft.kp W .nil aw (ae (pv 0) (ae zh aq))) aq)) (zn (i:=2) jK.nd rfl (Or.inl rfl))
    (ze (zr (i:=3) jK.nd rfl (Or.inl rfl) DO)
    (ze (ee Bc rfl (gT rfl B.range (ae (zv dD zh (zx Gt q rfl mt Ft.kp W .nil aw (ae (pv 0) (ae zh aq)))) aq)) (zn (i:=4) jK.nd rfl (Or.inl rfl))
     (zg (mN hu (pv 3) (zx Gt q rfl mt Ft.kp W .nil aw (ae (pv 0) (ae zh aq))) fI rfl)))
    (ze (zr (i:=5) jK.nd rfl (Or.inl rfl) (zw kE rfl B.tuple lm (ae (zm EF rfl B.sorted nY (ae (zw (Ex rfl) rfl B.list ue (ae (pv 3) aq)) aq)) aq)))
    (zg (zS (zq (ED (in1_units bC)) (pv 5) (pv 1) (by with_unfolding_all rfl)) (zg (fM (zW AU PySem.F.slot_list_append PySem.F.type_list_append gC (pv 1) (ae (pv 5) aq)))) zt))))))
   (zg (zp (zx Gn hr rfl mn Fn.kp bn .nil aw (ae (pv 0) (ae (pv 1) aq))))))),?_⟩
  refine⟨_,rfl,p,2,rfl,hb,ξ,ξ,fun r H1 r0 r1 fE G=>⟨rfl,_,rfl,?_⟩⟩;refine bU (fun h1=>?_) (fun h1=>?_)
  ·refine⟨_,rfl,_,rfl,p,20,rfl,G,ξ,ξ,fun n H2 n0 n1 i8 eP=>?_⟩
   obtain⟨m,rfl⟩:=Int.eq_ofNat_of_zero_le n0;refine⟨m,rfl,ω,fun D as H3 aB dG hD ht=>?_⟩;obtain⟨g1,g2⟩:=F0 m ω;have X:=(fE.trans i8).trans (zP.of aB);have bW:=eP.same aB;refine⟨p,D,as,known m,rfl,bW,hD,ht,g1,fun ps hp=>by have:=(g2 ps hp).2;omega,fun D' bs aM first aP J M c dM bF T c1 c2 c3 c4 g=>?_⟩;exact k D' bs aM J (X.trans M) c (X.free hb bW dM) bF T ⟨known m,first,aP,.inl ⟨m,ω,rfl⟩,c1,c2,c3,c4,g⟩
  ·refine⟨zd (by simp),fun L hL=>?_⟩
   have hL0:H L=none:=fE.free hb G hL;refine⟨_,rfl,p,6,rfl,G.new hL,ξ,ξ,fun r6 H3 a1 a2 X bW=>⟨r6,rfl,ω,ω,?_⟩⟩;have fL:L≠p:=zD.ne (as:=[]) (G.new hL) am;have fj:zP p H H3:=(fE.then hL0).trans X;refine pj (lo:=0) (n:=r6.toNat) (fun i σ J=>∃as pss v2 v3 N v5,σ=[some (.ref p),some (.ref L),v2,v3,N,v5]/\zP p H J/\zD J p/\J L=some (.lst (as.map V.ref))/\Tps J as pss/\ig pss/\pss.length<=i)
    ⟨[],[],none,none,none,none,rfl,fj,bW,X _ _ fL am,.nil,⟨List.nodup_nil,fun ps h=>nomatch h⟩,Ag _⟩ ?_ ?_
   ·rintro i σ J hi ⟨as,pss,v2,v3,N,v5,rfl,M,c,jW,T,l,Z⟩
    have aQ:=T.length;intro d hd;have pA:H d=none:=M.free hb c hd;have rC:L≠d:=zj jW hd;refine⟨_,rfl,p,4,rfl,c.new hd,ξ,ξ,fun r4 H5 e1 e2 U eJ=>⟨_,_,rfl,rfl,_,rfl,ω,ω,?_⟩⟩;have kD:d≠p:=by
     obtain⟨x,y,e,_⟩:=c.new (o:=.dK []) hd;exact fH am e (by intro z;cases z)
    have s4:=Same.new (o:=.dK []) hd;refine pj (lo:=0) (n:=(1+r4).toNat) (fun j σ C=>∃seq N,σ=[some (.ref p),some (.ref L),some (.int (0+i)),some (.ref d),N,v5]/\zP p H C/\zD C p/\C L=some (.lst (as.map V.ref))/\Tps C as pss/\C d=some (.dK (gi seq))/\seq.length=j/\∀x∈seq,0<=x/\x<=5)
     ⟨[],_,rfl,(M.then pA).trans U,eJ,U _ _ fL (s4 _ _ jW),U.tps (c.new hd) (s4.tps T),U _ _ kD am,rfl,fun x h=>nomatch h⟩ ?_ ?_
    ·rintro j σ C hj ⟨seq,N,rfl,kG,ik,O,je,kg,fc,iP⟩
     refine⟨_,rfl,_,rfl,p,6,rfl,ik,ξ,ξ,fun r H7 f1 f2 I kj=>⟨d,_,rfl,DPut.k (k:=Sum.inl r) (I _ _ kD kg) (fA (by have:=FX seq;omega)),⟨seq++[r],_,rfl,(kG.trans I).then pA,kj.upd kD,?_,?_,by rw[am,FY],by rw[Aq,fc];rfl,?_⟩⟩⟩
     ·rw[zi rC];exact I _ _ fL O
     ·exact Tps.upd (I.tps ik je) (I _ _ kD kg) (by intro xs z;cases z)
     ·intro x hx
      rcases List.mem_append.mp hx with hx|hx
      ·exact iP x hx
      ·rw[List.mem_singleton] at hx;subst hx;omega
    ·rintro σ C ⟨seq,N,rfl,kG,ik,O,je,kg,fc,iP⟩
     refine⟨_,rfl,d,_,rfl,kg,fun l2 bY=>⟨l2,dd seq,rfl,SqL.of (by rw[am,FZ]),(by have:=gI seq;omega),fun D2 u hp hs bT=>⟨D2,_,rfl,.inl ⟨SqL.of am,fun t htn=>?_⟩⟩⟩⟩;have v:Same C (upd (upd (upd C l2 (.lst ((gi seq).map fun kv=>kV kv.1))) D2 (.lst (u.map V.int))) t (.tup (u.map V.int))):=((Same.new bY).trans (Same.new bT)).trans (Same.new htn);generalize hH7:upd (upd (upd C l2 (.lst ((gi seq).map fun kv=>kV kv.1))) D2 (.lst (u.map V.int))) t (.tup (u.map V.int))=H7 at v;have nG:Tp H7 t u:=by rw[<-hH7];exact am
     have I:=kG.trans (zP.of v);have kj:=ik.same v;refine⟨_,rfl,_,rfl,t,L,u,as,pss,rfl,rfl,nG,SqL.of (v _ _ O),v.tps je,_,rfl,?_⟩;have uO:u≠[]/\u.length<=4/\aX u=true/\∀x∈u,0<=x/\x<=5:=by
      refine⟨fun z=>?_,?_,yL hs (hp.nodup_iff.mpr (tw seq)),fun x hx=>iP x ((hU seq x).mp (hp.mem_iff.mp hx))⟩
      ·have h0:dd seq=[]:=by rw[z] at hp;exact(List.nil_perm.mp hp)
       cases hq:seq with
       |nil=>rw[hq] at fc;simp at fc;omega
       |cons x r=>
        have:=(hU seq x).mpr (by rw[hq];exact Aj);rw[h0] at this;cases this
      ·have:=gI seq
       rw[hp.length_eq];omega
     by_cases S:u∈pss
     ·rw[decide_eq_true S]
      exact bg ⟨as,pss,_,_,_,_,rfl,I,kj,v _ _ O,v.tps je,l,ω⟩
     ·rw[decide_eq_false S]
      refine be ⟨_,rfl,.inl ⟨rfl,_,SqL.of (v _ _ O)⟩,_,rfl,L,_,_,rfl,rfl,v _ _ O,fA (by rw[Ab];omega),⟨as++[t],pss++[u],_,_,_,_,rfl,I.then hL0,kj.upd fL,by rw[am,Au];rfl,Tps.upd (Tps.snoc (v.tps je) nG) (v _ _ O) (by intro xs z;cases z),⟨?_,?_⟩,by rw[Aq];simp;omega⟩⟩
      ·rw[List.nodup_append]
       refine⟨l.1,by simp,fun a ha b Y e=>?_⟩;rw[List.mem_singleton] at Y;subst Y;subst e;exact S ha
      ·intro ps cS
       rcases List.mem_append.mp cS with h|h
       ·exact l.2 ps h
       ·rw[List.mem_singleton] at h;subst h;exact uO
   ·rintro σ J ⟨as,pss,v2,v3,N,v5,rfl,M,c,jW,T,l,Z⟩
    refine⟨_,rfl,_,rfl,p,L,as,pss,rfl,c,jW,T,ω,fun ps hp=>by have:=(l.2 ps hp).2.1;omega,fun D' bs aM first aP H5 U eJ dM fm uR c1 c2 c3 c4 g=>?_⟩;exact k D' bs aM H5 (M.trans U) eJ (M.free hb c dM) fm uR ⟨pss,first,aP,.inr ⟨ω,l⟩,c1,c2,c3,c4,g⟩
end
end K8
end
section
namespace K1
open PySem L2 STb
def yN:∀a b:List Int,HT.lexLt a b=true->HT.lexLt b a=false
 |[],[],h=>rfl
 |[],_::_,h=>rfl
 |_::_,[],h=>by rw[HT.wU] at h;exact absurd h Ax
 |x::xs,y::ys,h=>by
  rw[HT.zN] at h ⊢
  by_cases e:x=y
  ·rw[if_pos e] at h;rw[if_pos e.symm];exact yN xs ys h
  ·rw[if_neg e] at h;rw[if_neg (fun z=>e z.symm)]
   have:=of_decide_eq_true h;exact decide_eq_false ω
def yO:∀a b:List Int,HT.lexLt a b=false->HT.lexLt b a=false->a=b
 |[],[],_,_=>rfl
 |[],_::_,h,_=>by rw[HT.zV] at h;exact absurd h ξ
 |_::_,[],_,h=>by rw[HT.zV] at h;exact absurd h ξ
 |x::xs,y::ys,h,h'=>by
  rw[HT.zN] at h h'
  by_cases e:x=y
  ·rw[if_pos e] at h;rw[if_pos e.symm] at h'
   rw[e,yO xs ys h h']
  ·rw[if_neg e] at h;rw[if_neg (fun z=>e z.symm)] at h'
   have:=of_decide_eq_false h;have:=of_decide_eq_false h';omega
def jv:∀a b c:List Int,HT.lexLt b a=false->HT.lexLt c b=false->HT.lexLt c a=false
 |[],b,c,_,_=>by cases c with
  |nil=>rfl
  |cons _ _=>rfl
 |_::_,[],c,h,_=>by rw[HT.zV] at h;exact absurd h ξ
 |_::_,_::_,[],_,h=>by rw[HT.zV] at h;exact absurd h ξ
 |x::xs,y::ys,z::zs,h,h'=>by
  rw[HT.zN] at h h' ⊢
  by_cases e:y=x
  ·rw[if_pos e] at h
   by_cases e2:z=y
   ·rw[if_pos e2] at h';rw[if_pos (e2.trans e)];exact jv xs ys zs h h'
   ·rw[if_neg e2] at h';rw[if_neg ω]
    have:=of_decide_eq_false h';exact decide_eq_false ω
  ·rw[if_neg e] at h
   have h1:=of_decide_eq_false h
   by_cases e2:z=y
   ·rw[if_neg ω]
    exact decide_eq_false ω
   ·rw[if_neg e2] at h'
    have h2:=of_decide_eq_false h';rw[if_neg ω];exact decide_eq_false ω
def key(p:List Int):List Int:=(p.length:Int)::p
def kle(a b:List Int):Bool:=!HT.lexLt (key b) (key a)
def jL{a b:List Int}:kle a b=true↔HT.lexLt (key b) (key a)=false:=by unfold kle;simp
def canon(pss:Ξ):Ξ:=(dd (pss.flatMap parts)).mergeSort kle
def og(pss:Ξ):(canon pss).Perm (dd (pss.flatMap parts)):=List.mergeSort_perm _ _
def yP(pss:Ξ):(canon pss).Pairwise (fun a b=>kle a b=true):=by
 refine List.pairwise_mergeSort (fun a b c h1 h2=>?_) (fun a b=>?_) _
 ·rw[jL] at h1 h2 ⊢;exact jv _ _ _ h1 h2
 ·rw[Bool.or_eq_true,jL,jL]
  cases h:HT.lexLt (key b) (key a) with
  |false=>exact .inl rfl
  |true=>exact .inr (yN _ _ h)
def iZ{pss:Ξ}{x:List Int}:x∈canon pss↔x∈pss.flatMap parts:=by rw[(og pss).mem_iff,hU]
def F5(pss:Ξ):(canon pss).Nodup:=(og pss).nodup_iff.mpr (tw _)
def i4(pss:Ξ):(canon pss).length=(dd (pss.flatMap parts)).length:=(og pss).length_eq
def yQ{l m:Ξ}(hp:l.Perm m)(h1:l.Pairwise (fun a b=>kle a b=true))(h2:m.Pairwise (fun a b=>kle a b=true)):l=m:=by
 refine List.Perm.eq_of_pairwise (fun a b _ _ g1 g2=>?_) h1 h2 hp;rw[jL] at g1 g2;have:=yO _ _ g2 g1;unfold key at this;exact(List.cons.inj this).2
def canon_of{pss l:Ξ}(hp:l.Perm (dd (pss.flatMap parts)))(hs:l.Pairwise (fun a b=>HT.lexLt ((b.length:Int)::b) ((a.length:Int)::a)=false)):l=canon pss:=
 yQ (hp.trans (og pss).symm) (hs.imp fun h=>jL.mpr h) (yP pss)
def oh:∀(n:Nat)(p q:List Int),p.length=n->(q∈subs p↔q.Sublist p)
 |0,p,q,h=>by
  obtain rfl:=List.eq_nil_of_length_eq_zero h;show q∈[[]]↔_;simp
 |n+1,p,q,h=>by
  obtain⟨r,x,rfl⟩:∃r x,p=r++[x]:=by
   rcases List.eq_nil_or_concat p with e|⟨r,x,e⟩
   ·rw[e] at h;cases h
   ·exact⟨r,x,by rw[e,List.concat_eq_append]⟩
  have hr:r.length=n:=by simpa using h
  rw[tN,List.mem_append,oh n r q hr,List.mem_map,List.sublist_append_iff];constructor
  ·rintro(h1|⟨y,hy,rfl⟩)
   ·exact⟨q,[],by simp,h1,List.nil_sublist _⟩
   ·exact⟨y,[x],rfl,(oh n r y hr).mp hy,List.Sublist.refl _⟩
  ·rintro⟨a,f,rfl,c,d⟩
   cases d with
   |cons _ h=>
    obtain rfl:=List.sublist_nil.mp h;exact .inl (by simpa using c)
   |cons_cons _ h=>
    obtain rfl:=List.sublist_nil.mp h;exact .inr ⟨a,(oh n r a hr).mpr c,rfl⟩
def lF{p q:List Int}:q∈parts p↔q≠[]/\q.Sublist p:=by
 obtain⟨t,e,ht⟩:=tT p;have hs:=oh p.length p q rfl;rw[e] at hs;unfold parts;rw[e];show q∈t↔_;constructor
 ·intro h
  exact⟨ht q h,hs.mp (An _ h)⟩
 ·rintro⟨h1,h2⟩
  rcases List.mem_cons.mp (hs.mpr h2) with h|h
  ·exact absurd h h1
  ·exact h
def F6{p q r:List Int}(h1:q∈parts p)(h2:r∈parts q):r∈parts p:=by
 rw[lF] at h1 h2 ⊢;exact⟨h2.1,h2.2.trans h1.2⟩
def jM:∀p:List Int,aX p=true↔p.Pairwise (·<·)
 |[]=>by simp[aX]
 |[a]=>by simp[aX]
 |a::b::r=>by
  have c:=jM (b::r);rw[show aX (a::b::r)=(decide (a<b)&&aX (b::r)) from rfl,AE,decide_eq_true_eq,c,List.pairwise_cons (a:=a)];constructor
  ·rintro⟨h1,h2⟩
   refine⟨fun x hx=>?_,h2⟩;rcases List.mem_cons.mp hx with rfl|hx
   ·exact h1
   ·have:=(List.pairwise_cons.mp h2).1 x hx
    omega
  ·rintro⟨h1,h2⟩
   exact⟨h1 b Aj,h2⟩
def zL{p:List Int}:zZ p=true↔p≠[]/\p.length<=5/\(∀x∈p,0<=x/\x<=99)/\p.Pairwise (·<·):=by
 unfold zZ;simp only[AE,decide_eq_true_eq,List.all_eq_true,jM];constructor
 ·rintro⟨⟨⟨h1,h2⟩,a⟩,c⟩
  exact⟨fun z=>by rw[z] at h1;simp at h1,h2,a,c⟩
 ·rintro⟨h1,h2,a,c⟩
  refine⟨⟨⟨?_,h2⟩,a⟩,c⟩;cases p with
  |nil=>exact absurd rfl h1
  |cons _ _=>simp
def u_{p q:List Int}(h:zZ p=true)(hq:q∈parts p):zZ q=true:=by
 rw[zL] at h ⊢;rw[lF] at hq;exact⟨hq.1,AA hq.2.length_le h.2.1,fun x hx=>h.2.2.1 x (hq.2.subset hx),h.2.2.2.sublist hq.2⟩
def F8{pss:Ξ}(h:pss.Nodup)(hp:∀p∈pss,zZ p=true):yt pss pss.length:=by
 intro i p hi e;refine⟨fun hm=>?_,hp p (Az e)⟩;obtain⟨j,c⟩:=List.mem_iff_getElem?.mp hm;obtain⟨d,a⟩:=List.getElem?_eq_some_iff.mp c;rw[AI] at d;obtain⟨f,g⟩:=List.getElem?_eq_some_iff.mp e;have:=List.pairwise_iff_getElem.mp h j i ω f ω;rw[List.getElem_take] at a;exact this (a.trans g.symm)
def F_{pss:Ξ}(a:pss.length<=20)(c:pss.Nodup)(hp:∀p∈pss,zZ p=true)(h:(dd (pss.flatMap parts)).length<=200):bv pss=true:=by
 rw[Fq pss a (F8 c hp),decide_eq_true h]
def lG{pss:Ξ}(h:bv pss=true):pss.length<=20/\(∀p∈pss,zZ p=true)/\(∀p∈pss,p.length<=5)/\(dd (pss.flatMap parts)).length<=200:=by
 unfold bv at h;simp only[AE,decide_eq_true_eq,List.all_eq_true] at h;obtain⟨⟨⟨h1,h2⟩,d⟩,c⟩:=h;have a:∀p∈pss,zZ p=true:=fun p hp=>by rw[<-t8];exact h2 p hp
 exact⟨h1,a,fun p hp=>(zL.mp (a p hp)).2.1,c⟩
def over(o p:List Int):Bool:=decide (p.length<o.length)&&p.all fun x=>decide (x∈o)
def gJ(a:Ξ)(p:List Int):Bool:=decide ((a.filter fun o=>over o p).length=0)
def tops(a:Ξ):Ξ:=a.filter (gJ a)
def vf{pss:Ξ}{x:List Int}(h:x∈tops (canon pss)):x∈pss:=by
 unfold tops at h;obtain⟨h1,h2⟩:=List.mem_filter.mp h;rw[iZ] at h1;obtain⟨p,hp,hx⟩:=List.mem_flatMap.mp h1;rw[lF] at hx;have c:p≠[]:=fun z=>by rw[z] at hx;exact hx.1 (List.sublist_nil.mp hx.2)
 have a:p∈canon pss:=iZ.mpr (List.mem_flatMap.mpr ⟨p,hp,lF.mpr ⟨c,List.Sublist.refl _⟩⟩)
 by_cases e:x.length<p.length
 ·exfalso
  unfold gJ at h2;have d:=of_decide_eq_true h2;have:p∈(canon pss).filter fun o=>over o x:=List.mem_filter.mpr ⟨a,by unfold over;rw[decide_eq_true e,Bool.true_and,List.all_eq_true];exact fun y hy=>decide_eq_true (hx.2.subset hy)⟩;rw[List.eq_nil_of_length_eq_zero d] at this;cases this
 ·have:x=p:=hx.2.eq_of_length (Nat.le_antisymm hx.2.length_le ω)
  rw[this];exact hp
def yR(pss:Ξ):(tops (canon pss)).Nodup:=(F5 pss).filter _
def yS(pss:Ξ):(tops (canon pss)).length<=pss.length:=(yR pss).length_le_of_subset fun x h=>vf h
end K1
end
section
namespace K8
open K1
open PySem L2 STb
def F'(b:Ξ):Prop:=b.Nodup/\b.length<=17/\(∀ps∈b,ps≠[]/\ps.length<=5/\aX ps=true/\∀x∈ps,0<=x/\x<=7)/\(b.flatMap parts).length<=200
def Gb:∀n,n<20->(known n).Nodup/\(known n).length<=17/\(∀ps∈known n,ps≠[]/\ps.length<=5/\aX ps=true/\∀x∈ps,0<=x/\x<=7)/\((known n).flatMap parts).length<=200:=δ
def yT{m:Nat}:∀{b:Ξ},(∀ps∈b,(parts ps).length<=m)->(b.flatMap parts).length<=m*b.length
 |[],_=>by simp
 |p::r,h=>by
  have h1:=h p Aj;have h2:=yT (b:=r) fun q hq=>h q (An _ hq);rw[List.flatMap_cons,Aq,Ap,Nat.mul_succ];omega
def Gc{b:Ξ}(h:Base b):F' b:=by
 rcases h with ⟨n,a,rfl⟩|⟨e,hs⟩
 ·exact Gb n a
 ·refine⟨hs.1,ω,fun ps hp=>?_,?_⟩
  ·obtain⟨h1,h2,c,d⟩:=hs.2 ps hp
   exact⟨h1,ω,c,fun x hx=>by have:=d x hx;omega⟩
  ·have:=yT (m:=15) (b:=b) fun ps hp=>by
    rw[iS];have h2:=(hs.2 ps hp).2.1;have:2 ^ ps.length<=2 ^ 4:=Nat.pow_le_pow_right ξ h2;omega
   omega
def Gd{first a:Int}(c:1<=a){p q:List Int}(h:cY first a p=cY first a q):p=q:=by
 unfold cY at h;refine(List.map_inj_right (f:=fun x=>first+a*x) (fun x y e=>?_)).mp h;have:a*x=a*y:=ω
 exact Int.eq_of_mul_eq_mul_left ω this
def Ge{first f:Int}(i:0<=first)(h1:first<12)(j:1<=f)(l:f<=3){p:List Int}(h:p≠[]/\p.length<=5/\aX p=true/\∀x∈p,0<=x/\x<=7):zZ (cY first f p)=true:=by
 obtain⟨a,b,c,d⟩:=h;rw[zL];unfold cY;refine⟨fun z=>a (List.map_eq_nil_iff.mp z),by rw[Ab];exact b,fun y hy=>?_,?_⟩
 ·obtain⟨x,hx,rfl⟩:=List.mem_map.mp hy
  have:=d x hx;have g:f=1\/f=2\/f=3:=ω
  rcases g with rfl|rfl|rfl<;>omega
 ·rw[jM] at c
  rw[List.pairwise_map];refine c.imp fun{x y} e=>?_;have:f*x<f*y:=Int.mul_lt_mul_of_pos_left e ω;omega
def Gf{q:Ξ}(h:Drawn q):bv q=true/\q.Nodup/\q.length<=17:=by
 obtain⟨b,first,d,hb,f,h1,a,g,hp⟩:=h;obtain⟨n1,n2,i,j⟩:=Gc hb;have l:q.length<=17:=by rw[hp.length_eq,Ab];exact n2
 have c:q.Nodup:=by
  rw[hp.nodup_iff];unfold List.Nodup at n1 ⊢;rw[List.pairwise_map];exact n1.imp fun{x y} e z=>e (Gd a z)
 refine⟨F_ ω c (fun p hm=>?_) ?_,c,l⟩
 ·obtain⟨r,hr,rfl⟩:=List.mem_map.mp (hp.mem_iff.mp hm)
  exact Ge f h1 a g (i r hr)
 ·refine AA (gI _) ?_
  rw[(hp.flatMap_right parts).length_eq];have:∀b:Ξ,((b.map (cY first d)).flatMap parts).length=(b.flatMap parts).length:=by
   intro b
   induction b with
   |nil=>rfl
   |cons p r ih=>
    rw[AT,List.flatMap_cons,List.flatMap_cons,Aq,Aq,ih,iS,iS];unfold cY;rw[Ab]
  rw[this];exact j
end K8
end
section
namespace K1
open PySem L2 STb
def bX(q:List Int):Ξ:=if q.length=1 then [] else(AQ q.length).map fun k=>q.take k++q.drop (k+1)
def yU(q:List Int):(bX q).length<=q.length:=by
 unfold bX;split
 ·exact AW _
 ·simp
def yV{p q:List Int}:p∈bX q↔q.length≠1/\∃k,k<q.length/\p=q.take k++q.drop (k+1):=by
 unfold bX;split
 next h=>simp[h]
 next h=>
  rw[List.mem_map];constructor
  ·rintro⟨k,hk,rfl⟩
   exact⟨h,k,List.mem_range.mp hk,rfl⟩
  ·rintro⟨_,k,hk,rfl⟩
   exact⟨k,List.mem_range.mpr hk,rfl⟩
def vj:∀(o p:List Int),o.Pairwise (·<·)->p.Pairwise (·<·)->(∀x∈p,x∈o)->p.Sublist o
 |[],p,_,_,h=>by
  cases p with
  |nil=>exact List.Sublist.slnil
  |cons a r=>exact absurd (h a Aj) (by simp)
 |b::o,p,ho,hp,h=>by
  obtain⟨f,c⟩:=List.pairwise_cons.mp ho;cases p with
  |nil=>exact List.nil_sublist _
  |cons a r=>
   obtain⟨d,g⟩:=List.pairwise_cons.mp hp
   by_cases e:a=b
   ·subst e
    refine(vj o r c g fun x hx=>?_).cons_cons a;rcases List.mem_cons.mp (h x (An _ hx)) with rfl|q
    ·have:=d x hx;omega
    ·exact q
   ·have i:a∈o:=by
     rcases List.mem_cons.mp (h a Aj) with q|q
     ·exact absurd q e
     ·exact q
    have j:=f a i;refine(vj o (a::r) c hp fun x hx=>?_).cons b;rcases List.mem_cons.mp (h x hx) with q|q
    ·exfalso
     rcases List.mem_cons.mp hx with z|z
     ·omega
     ·have:=d x z;omega
    ·exact q
def between{p o:List Int}(h:p.Sublist o):p.length<o.length->∃(r:List Int)(k:Nat),r.Sublist o/\k<r.length/\r.length=p.length+1/\p=r.take k++r.drop (k+1):=by
 induction h with
 |slnil=>intro h;simp at h
 |@cons p o a s ih=>
  intro _;exact⟨a::p,0,s.cons_cons a,by simp,by simp,by simp⟩
 |@cons_cons p o a s ih=>
  intro c;obtain⟨r,k,h1,h2,d,e⟩:=ih (by simpa using c);exact⟨a::r,k+1,h1.cons_cons a,by simpa using h2,by simp[d],by rw[List.take_succ_cons,List.drop_succ_cons,List.cons_append,<-e]⟩
def Gh{p q:List Int}{k:Nat}(hk:k<q.length)(h:p=q.take k++q.drop (k+1)):p.Sublist q/\p.length<q.length:=by
 subst h;refine⟨?_,?_⟩
 ·have h1:(q.take k++q.drop (k+1)).Sublist (q.take k++q.drop k):=(List.Sublist.refl _).append (by
   rw[show q.drop (k+1)=(q.drop k).drop 1 by rw[List.drop_drop]];exact List.drop_sublist _ _)
  rwa [AX] at h1
 ·rw[Aq,AI,List.length_drop]
  omega
def Gj{pss:Ξ}(hp:∀p∈pss,zZ p=true){p:List Int}(h:p∈canon pss):gJ (canon pss) p=!decide (p∈(canon pss).flatMap bX):=by
 have a:∀q∈canon pss,zZ q=true:=fun q hq=>by
  obtain⟨r,hr,hx⟩:=List.mem_flatMap.mp (iZ.mp hq);exact u_ (hp r hr) hx
 rw[Bool.eq_iff_iff];unfold gJ;rw[decide_eq_true_eq,Bool.not_eq_true',decide_eq_false_iff_not,List.length_eq_zero_iff,List.filter_eq_nil_iff];constructor
 ·intro ht hm
  obtain⟨q,hq,g⟩:=List.mem_flatMap.mp hm;obtain⟨_,k,hk,e⟩:=yV.mp g;obtain⟨s,l⟩:=Gh hk e;refine ht q hq ?_;unfold over;rw[decide_eq_true l,Bool.true_and,List.all_eq_true];exact fun x hx=>decide_eq_true (s.subset hx)
 ·intro f o d c
  unfold over at c;rw[AE,decide_eq_true_eq,List.all_eq_true] at c;obtain⟨i,hm⟩:=c;have hs:p.Sublist o:=vj o p (zL.mp (a o d)).2.2.2 (zL.mp (a p h)).2.2.2 fun x hx=>of_decide_eq_true (hm x hx);obtain⟨r,k,h1,h2,w,j⟩:=between hs i;have u:p≠[]:=(zL.mp (a p h)).1;have v:1<=p.length:=by
   cases p with
   |nil=>exact absurd rfl u
   |cons _ _=>simp
  have hr:r∈canon pss:=by
   obtain⟨q,hq,hx⟩:=List.mem_flatMap.mp (iZ.mp d);refine iZ.mpr (List.mem_flatMap.mpr ⟨q,hq,F6 hx (lF.mpr ⟨fun z=>?_,h1⟩)⟩);rw[z] at h2;simp at h2
  exact f (List.mem_flatMap.mpr ⟨r,hr,yV.mpr ⟨ω,k,h2,j⟩⟩)
def Gs{pss:Ξ}(hp:∀p∈pss,zZ p=true):(canon pss).filter (fun p=>!decide (p∈(canon pss).flatMap bX))=tops (canon pss):=by
 unfold tops;exact List.filter_congr fun p h=>(Gj hp h).symm
def Gu(pss:Ξ):(tops (canon pss)).Pairwise (fun a b=>kle a b=true):=(yP pss).sublist List.filter_sublist
end K1
end
section
namespace K8
open K1
open PySem L2 STb
def i7(pss:Ξ):Prop:=bv pss=true/\(canon pss).length<1000
abbrev ol:Stmt:=top 27
abbrev oo:Stmt:=top 28
def vl{H:Hp}:∀{a:List (List Int×Addr)},(∀q∈a,Tp H q.2 q.1)->Tps H (a.map (·.2)) (a.map (·.1))
 |[],_=>.nil
 |q::r,h=>.cons (h q Aj) (vl fun x hx=>h x (An _ hx))
def vr{H H2:Hp}{pss:Ξ}{D:Addr}{a:List (List Int×Addr)}(t:Told H H2 pss D a):∃bs,Same H H2/\H D=none/\H2 D=some (.lst (bs.map V.ref))/\Tps H2 bs (canon pss):=by
 obtain⟨c,d,f,hq,hp,hs⟩:=t;have e:a.map (·.1)=canon pss:=canon_of hp (List.pairwise_map.mpr hs);refine⟨a.map (·.2),c,d,by rw[f,AK];rfl,?_⟩;rw[<-e];exact vl hq
section
variable{P:Program}{w:World}{K:Ae}{mg:Str->Option Value}{base:Heap}
def yW(K:Ae):Sp:=fun vs H Q _=>∃l as pss,vs=[.ref l]/\SqL K H l (as.map V.ref)/\Tps H as pss/\i7 pss/\∀D H2 bs,Same H H2->H D=none->H2 D=some (.lst (bs.map V.ref))->Tps H2 bs (canon pss)->Q (.ref D) H2
def Gv:zo ["web"] ["web"] (zf oo):=⟨rfl,rfl,rfl,δ,rfl,δ,δ⟩
def Gw:zo ["web"] ["web"] (zf ol):=⟨rfl,rfl,rfl,δ,rfl,δ,δ⟩
def yX(K:Ae):Sp:=fun vs H Q _=>∃l as pss,vs=[.ref l]/\SqL K H l (as.map V.ref)/\Tps H as pss/\i7 pss/\∀H2,Same H H2->Q .non H2
def Gx{f fw:Addr}{fd dZ:FuncData}(F:Fun K "must_be_web" "must_be_web" ol f fd)(Fw:Fun K "is_web" "is_web" nU fw dZ)(d:Binds K dZ ["web"] [])(e:mg "is_web"=some (.ref fw))(g:FnOk P w K mg base aT 6 fw dZ ["web"] (uT K)):FnOk P w K mg base aT 7 f fd ["web"] (yX K):=by
 refine F.ok Gw (fun vs H Q E h=>?_) (fun cdv A outer s H vs Q E hr h=>?_)
 ·obtain⟨l,as,pss,rfl,_⟩:=h;rfl
 ·obtain⟨l,as,pss,rfl,c,ht,hw,k⟩:=h
  refine⟨_,zg (zS (gQ (jj (zx g hr rfl e Fw.kp d .nil aw (ae (pv 0) aq)))) CZ zt),?_⟩;refine⟨_,rfl,l,as,pss,rfl,c,ht,(fun _=>by rw[<-i4];exact hw.2),fun H1 a=>⟨_,rfl,?_⟩⟩;rw[hw.1];exact bg (k H1 a)
def Gy{f fw fa:Addr}{fd dZ e:FuncData}(F:Fun K "pieces" "pieces" oo f fd)(Fw:Fun K "must_be_web" "must_be_web" ol fw dZ)(q:Binds K dZ ["web"] [])(r:mg "must_be_web"=some (.ref fw))(x:FnOk P w K mg base aT 7 fw dZ ["web"] (yX K))(Fa:Fun K "all_parts" "all_parts" sAll fa e)(u:Binds K e ["some"] [])(v:mg "all_parts"=some (.ref fa))(y:FnOk P w K mg base aT 5 fa e ["some"] (jJ K)):FnOk P w K mg base aT 8 f fd ["web"] (yW K):=by
 refine F.ok Gv (fun vs H Q E h=>?_) (fun cdv A outer s H vs Q E hr h=>?_)
 ·obtain⟨l,as,pss,rfl,_⟩:=h;rfl
 ·obtain⟨l,as,pss,rfl,g,ht,hw,k⟩:=h
  have d:Room 5 _:=hr.mono ξ;refine⟨_,ze (fM (zx x hr rfl r Fw.kp q .nil aw (ae (pv 0) aq)))
   (zg (zp (zx y d rfl v Fa.kp u .nil aw (ae (pv 0) aq)))),?_⟩
  obtain⟨c,_,i,_⟩:=lG hw.1;refine⟨_,rfl,l,as,pss,rfl,g,ht,hw,fun H1 a=>?_⟩;refine⟨_,rfl,l,as,pss,rfl,a.seq g,a.tps ht,i,AA c ξ,(by rw[<-i4];exact hw.2),fun D H2 z t=>?_⟩;obtain⟨bs,j,o,p,hb⟩:=vr t;exact k D H2 bs (a.trans j) (a.free o) p hb
end
end K8
end
section
namespace K8
open K1
open PySem L2 STb
abbrev lI:Stmt:=top 18
abbrev lL:Stmt:=top 22
def vu(xs:List V)(i:Nat)(h:i<=xs.length):b' xs none (some (i:Int))=xs.take i:=by
 unfold b';rw[HT.mK,HT.kx,Nat.min_eq_left h,List.drop_zero,Nat.sub_zero]
def vB(xs:List V)(i:Nat)(h:i<=xs.length):b' xs (some (i:Int)) none=xs.drop i:=by
 unfold b';rw[HT.mK,HT.kx,Nat.min_eq_left h];exact At (by rw[List.length_drop];exact Ag _)
abbrev lM:TE:=cV rR (p5 iU (aY 1) pK (p0 (aY 0))) (p5 iU (aY 1) (p0 (cV (fg fun i j=>.int (i+j)) (aY 0) (tC (.int 1)))) pK)
section
variable{P:Program}{w:World}{K:Ae}{mg:Str->Option Value}{base:Heap}
def Gz{H2:Hp}{a D:Addr}{ps:List Int}{Q:VK}(r:Tp H2 a ps)(w:ps.length<=5)(s:H2 D=none)(k:∀(c:Hp)(bs:List Addr),Same H2 c->c D=some (.lst (bs.map V.ref))->Tps c bs ((AQ ps.length).map fun k=>ps.take k++ps.drop (k+1))->Q (.ref D) c):cw (gn 0 ps.length) (cm 0) bN lM [none,some (.ref a)] H2 D Q:=by
 refine xR (fun j σ ys c=>∃(v:Option V)(bs:List Addr),σ=[v,some (.ref a)]/\Same H2 c/\c D=some (.lst ys)/\ys=bs.map V.ref/\Tps c bs (((AQ ps.length).map fun k=>ps.take k++ps.drop (k+1)).take j)) ?_ ?_ ?_
 ·exact⟨none,[],rfl,Same.new s,am,rfl,.nil⟩
 ·rintro j σ ys c q hy ⟨v,bs,rfl,d,f,rfl,hb⟩
  have e:((AQ ps.length).map fun k=>ps.take k++ps.drop (k+1))[j]?=some (ps.take j++ps.drop (j+1)):=by rw[Ar,List.getElem?_range q];rfl
  refine cb ?_;refine⟨_,rfl,_,rfl,_,rfl,a,_,rfl,d.tp r,fun p1 x h i=>⟨_,rfl,_,rfl,_,_,rfl,rfl,_,rfl,a,_,rfl,h _ _ (d.tp r),fun p2 y l o=>?_⟩⟩;rw[show(0:Int)+((j:Nat):Int)=((j:Nat):Int) from ω,vu _ _ (by rw[Ab];omega),<-List.map_take] at i;rw[show(0:Int)+((j:Nat):Int)+1=((j+1:Nat):Int) from ω,vB _ _ (by rw[Ab];omega),<-List.map_drop] at o;refine⟨p1,p2,_,_,rfl,rfl,l _ _ i,o,zd (by simp;omega),fun p3 A u p=>?_⟩;rw[<-Au] at p;have g:=(h.trans l).trans u;refine bO (zd ω) q hy (g _ _ f) ⟨_,bs++[p3],rfl,(d.trans g).then s,am,by rw[Au];rfl,?_⟩;rw[AN e];exact Tps.upd (Tps.snoc (g.tps hb) p) (g _ _ f) (by intro xs z;cases z)
 ·rintro σ ys c ⟨v,bs,rfl,d,f,rfl,hb⟩
  rw[At (by simp)] at hb;exact k c bs d f hb
def yY:Sp:=fun vs H Q _=>∃a ps,vs=[.ref a]/\Tp H a ps/\ps.length<=5/\∀D H2(bs:List Addr),Same H H2->H D=none->H2 D=some (.lst (bs.map V.ref))->Tps H2 bs (bX ps)->Q (.ref D) H2
def GA:zo ["piece"] ["piece"] (zf lI):=⟨rfl,rfl,rfl,δ,rfl,δ,δ⟩
def GB{f:Addr}{fd:FuncData}(F:Fun K "rims_of" "rims_of" lI f fd)(B:Bt mg):FnOk P w K mg base aT 1 f fd ["piece"] yY:=by
 refine F.ok GA (fun vs H Q E h=>?_) (fun cdv A outer s H vs Q E hr h=>?_)
 ·obtain⟨a,ps,rfl,_⟩:=h;rfl
 ·obtain⟨a,ps,rfl,d,l,k⟩:=h
  refine⟨_,ze (zS (zq dI (zm zl rfl B.len cP (ae (pv 0) aq)) zh (au _)) (zg (zp (zI aq))) zt)
   (zg (zp (zz ["piece"] ["k","piece"] [none,some 0] (gT rfl B.range (ae (zm zl rfl B.len cP (ae (pv 0) aq)) aq)) (fun e C s₀ H₀ ex=>zn (i:=0) (cz ["k","piece"]) rfl (Or.inl rfl)) (fun e C s₀ H₀ ex=>zG)
    (fun e C s₀ H₀ ex=>zv rV (ge yu (pv 1) gc (gd (pv 0))) (ge yu (pv 1) (gd (zv dD (pv 0) zh)) gc)) (hfr:=fz (zf lI) δ) (te:=lM)))),?_⟩
  refine⟨_,rfl,a,_,rfl,.inr (SqT.of d),rfl,_,rfl,?_⟩;rw[Ab]
  by_cases h1:ps.length=1
  ·rw[show decide (V.int (ps.length:Int)=V.int 1)=true from decide_eq_true (by rw[h1];rfl)]
   refine be ⟨zd (by simp),fun D c=>k D _ [] (Same.new c) c am ?_⟩;unfold bX;rw[if_pos h1];exact .nil
  ·rw[show decide (V.int (ps.length:Int)=V.int 1)=false from decide_eq_false fun z=>h1 (by injection z with z;omega)]
   refine bg ⟨_,rfl,a,_,rfl,.inr (SqT.of d),_,rfl,by rw[Ab];omega,by rw[Ab];omega,fun D c=>?_⟩;rw[Ab];refine zA (Gz d l c fun o bs g j hb=>k D o bs g c j ?_);unfold bX;rw[if_neg h1];exact hb
def GC(seq:Ξ)(p:List Int):(cv (c6 seq) (p.map Sum.inl)).isSome=decide (p∈seq):=by
 rw[<-qU,Bool.eq_iff_iff,List.any_eq_true,decide_eq_true_eq];unfold c6;constructor
 ·rintro⟨c,hm,e⟩
  obtain⟨q,hq,rfl⟩:=List.mem_map.mp hm;have a:=of_decide_eq_true e;have:q=p:=(List.map_inj_right (f:=(Sum.inl:Int->Key)) (fun x y h=>Sum.inl.inj h)).mp a;rw[<-this];exact(hU seq q).mp hq
 ·intro h
  exact⟨_,List.mem_map.mpr ⟨p,(hU seq p).mpr h,rfl⟩,by simp⟩
def GE{H2:Hp}{L d D:Addr}{as:List Addr}{g seq:Ξ}{Q:VK}(s:SqL K H2 L (as.map V.ref))(ht:Tps H2 as g)(hd:H2 d=some (.dT (c6 seq)))(u:g.length<=1000)(i:H2 D=none)(k:∀(a:Hp)(bs:List Addr),Same H2 a->a D=some (.lst (bs.map V.ref))->Tps a bs (g.filter fun p=>!decide (p∈seq))->Q (.ref D) a):cw (du K L) (cm 0) (tB (rf (aY 0) (aY 1))) (aY 0) [none,some (.ref d)] H2 D Q:=by
 have q:=ht.length;refine zR (xs:=as.map V.ref) (fun j σ ys a=>∃(v:Option V)(bs:List Addr),σ=[v,some (.ref d)]/\Same H2 a/\a D=some (.lst ys)/\ys=bs.map V.ref/\Tps a bs ((g.take j).filter fun p=>!decide (p∈seq))) ?_ ?_ ?_ ?_
 ·exact⟨none,[],rfl,Same.new i,am,rfl,.nil⟩
 ·rintro j σ ys a ⟨v,bs,rfl,c,f,rfl,_⟩
  exact c.seq s
 ·rintro j σ ys a x hx h hy ⟨v,bs,rfl,c,f,rfl,hb⟩
  obtain⟨o,l,rfl⟩:=dR hx;obtain⟨p,ep,hp⟩:=ht.get l;have r:(as.map V.ref).length<=sizeLine:=by rw[Ab];exact zd ω
  refine⟨_,rfl,_,rfl,d,_,rfl,DGet.t (k:=p.map Sum.inl) (c _ _ hd) (by rw[AK];exact c.tp hp),_,rfl,?_⟩;rw[GC]
  by_cases e:p∈seq
  ·rw[decide_eq_true e]
   refine bg (eX h hy ⟨_,bs,rfl,c,f,rfl,?_⟩);rw[AN ep,Bg,List.filter_cons_of_neg (by rw[decide_eq_true e];decide),List.filter_nil,List.append_nil];exact hb
  ·rw[decide_eq_false e]
   refine be ⟨_,rfl,bO r h hy f ⟨_,bs++[o],rfl,c.then i,am,by rw[Au];rfl,?_⟩⟩;rw[AN ep,Bg,List.filter_cons_of_pos (by rw[decide_eq_false e];rfl),List.filter_nil];exact Tps.upd (Tps.snoc hb (c.tp hp)) f (by intro xs z;cases z)
 ·rintro σ ys a ⟨v,bs,rfl,c,f,rfl,hb⟩
  rw[Ab,q,At (Ag _)] at hb;exact k a bs c f hb
def yZ{m:Nat}:∀{b:Ξ},(∀ps∈b,(bX ps).length<=m)->(b.flatMap bX).length<=m*b.length
 |[],_=>by simp
 |p::r,h=>by
  have h1:=h p Aj;have h2:=yZ (b:=r) fun q hq=>h q (An _ hq);rw[List.flatMap_cons,Aq,Ap,Nat.mul_succ];omega
def y_(K:Ae):Sp:=fun vs H Q _=>∃l as pss,vs=[.ref l]/\SqL K H l (as.map V.ref)/\Tps H as (canon pss)/\(∀p∈pss,zZ p=true)/\(canon pss).length<1000/\∀D H2(bs:List Addr),Same H H2->H D=none->H2 D=some (.lst (bs.map V.ref))->Tps H2 bs (tops (canon pss))->Q (.ref D) H2
def oq:zo ["every","covered","piece","rim"] ["every"] (zf lL):=⟨rfl,rfl,rfl,δ,rfl,δ,δ⟩
def GF{f fr Y fk:Addr}{fd Z eT cM:FuncData}(F:Fun K "greatest_of" "greatest_of" lL f fd)(B:Bt mg)(Fr:Fun K "rims_of" "rims_of" lI fr Z)(br:Binds K Z ["piece"] [])(mr:mg "rims_of"=some (.ref fr))(Fo:Fun K "in_order" "in_order" jI Y eT)(bo:Binds K eT ["some"] [])(mo:mg "in_order"=some (.ref Y))(Fk:Fun K "order_key" "order_key" eE fk cM)(bk:Binds K cM ["piece"] [])(mk:mg "order_key"=some (.ref fk)):FnOk P w K mg base aT 5 f fd ["every"] (y_ K):=by
 have Gr:FnOk P w K mg base aT 1 fr Z ["piece"] yY:=GB Fr B;have Go:FnOk P w K mg base aT 4 Y eT ["some"] (uv K):=yB Fo B Fk bk mk;refine F.ok oq (fun vs H Q E h=>?_) (fun cdv A outer s H vs Q E hr h=>?_)
 ·obtain⟨l,as,pss,rfl,_⟩:=h;rfl
 ·obtain⟨l,as,pss,rfl,T,ht,nL,J,k⟩:=h
  have hu:=mO hr;have X:Room 1 _:=hr.mono ξ;refine⟨_,ze (zr (i:=1) oq.nd rfl (Or.inr rfl) rg)
   (ze (ee Bc rfl (zF (pv 0)) (zn (i:=2) oq.nd rfl (Or.inl rfl))
    (zg (ee Bc rfl (zF (zx Gr X rfl mr Fr.kp br .nil aw (ae (pv 2) aq))) (zn (i:=3) oq.nd rfl (Or.inl rfl))
     (zg (mN hu (pv 1) (pv 3) fI rfl)))))
   (zg (zp (zx Go hr rfl mo Fo.kp bo .nil aw (ae (zz ["every","covered","piece","rim"] ["piece","covered"] [none,some 1] (zF (pv 0)) (fun cl C s₀ H₀ ex=>zn (i:=0) (cz ["piece","covered"]) rfl (Or.inl rfl))
    (fun cl C s₀ H₀ ex=>nk (CS (DJ hu (pv 0) (pv 1)) (by with_unfolding_all rfl))) (fun cl C s₀ H₀ ex=>pv 0) (hfr:=fz (zf lL) δ) (tc:=tB (rf (aY 0) (aY 1)))) aq))))),?_⟩
  intro d hd;have aQ:=ht.length;have h5:∀p∈canon pss,p.length<=5:=fun p hp=>by
   obtain⟨q,hq,hx⟩:=List.mem_flatMap.mp (iZ.mp hp);exact(zL.mp (u_ (nL q hq) hx)).2.1
  refine⟨_,rfl,l,rfl,⟨_,(Same.new hd).seq T⟩,f_ (K:=K) (a:=l) (xs:=as.map V.ref) (fun i σ H2=>∃(v r:Option V),σ=[some (.ref l),some (.ref d),v,r]/\Same H H2/\H2 d=some (.dT (c6 (((canon pss).take i).flatMap bX))))
   ⟨none,none,rfl,Same.new hd,am⟩ (fun i σ H2 _ ⟨_,_,_,g,_⟩=>g.seq T) ?_ ?_⟩
  ·rintro i x σ H2 hx ⟨v,r,rfl,g,L⟩
   obtain⟨a,ea,rfl⟩:=dR hx;obtain⟨ps,U,cS⟩:=ht.get ea;have cO:=h5 ps (Az U);have hi:i<(canon pss).length:=(List.getElem?_eq_some_iff.mp U).1;refine⟨_,rfl,a,ps,rfl,g.tp cS,cO,fun D H3 cs y dG I cN=>⟨D,rfl,⟨_,SqL.of I⟩,?_⟩⟩;have jD:=cN.length;have iT:D≠d:=fH I (y _ _ L) (by intro z;cases z);refine f_ (K:=K) (a:=D) (xs:=cs.map V.ref) (fun j σ o=>∃(r:Option V),σ=[some (.ref l),some (.ref d),some (.ref a),r]/\Same H o/\o D=some (.lst (cs.map V.ref))/\Tps o cs (bX ps)/\o d=some (.dT (c6 (((canon pss).take i).flatMap bX++(bX ps).take j))))
    ⟨_,rfl,g.trans y,I,cN,by rw[List.take_zero,List.append_nil];exact y _ _ L⟩ (fun j σ o _ ⟨_,_,_,q,_⟩=>SqL.of q) ?_ ?_
   ·rintro j x σ o hx ⟨r,rfl,G,S,W,M⟩
    obtain⟨c,ec,rfl⟩:=dR hx;obtain⟨f,ef,hf⟩:=W.get ec;have N:(c6 (((canon pss).take i).flatMap bX++(bX ps).take j)).length<sizeLine:=by
     refine fA (AA (ux _) ?_);rw[Aq];have h1:=yZ (m:=5) (b:=(canon pss).take i) (fun q hq=>AA (yU q) (h5 q (List.mem_of_mem_take hq)));have h2:=yU ps;rw[AI] at h1 ⊢;omega
    refine⟨_,rfl,_,rfl,d,_,rfl,DPut.t (k:=f.map Sum.inl) M (by rw[AK];exact hf) N,⟨_,rfl,G.then hd,?_,?_,?_⟩⟩
    ·rw[zi iT];exact S
    ·exact Tps.upd W M (by intro xs z;cases z)
    ·rw[am,uQ,AY,<-AN ef]
   ·rintro σ o ⟨r,rfl,G,S,W,M⟩
    refine⟨_,_,rfl,G,?_⟩;rw[Ab,jD,take_all] at M;rw[AN U,List.flatMap_append,List.flatMap_singleton];exact M
  ·rintro σ H2 ⟨v,r,rfl,g,L⟩
   rw[Ab,aQ,take_all] at L;refine⟨_,rfl,l,rfl,⟨_,g.seq T⟩,fun rF lW=>zA (GE (g.seq T) (g.tps ht) L ω lW fun H3 bs y tP hb=>?_)⟩;rw[Gs nL] at hb;refine⟨rF,bs,tops (canon pss),rfl,SqL.of tP,hb,Nat.lt_of_le_of_lt (List.length_filter_le _ _) J,fun D o O G I S hp hs=>?_⟩;have gO:=hb.length;have hq:∀q∈O,Tp o q.2 q.1:=fun q hq=>by
    obtain⟨m,em⟩:=List.mem_iff_getElem?.mp (hp.mem_iff.mp hq);rw[bu.bK] at em;cases e1:(tops (canon pss))[m]? with
    |none=>rw[e1] at em;cases em
    |some f=>
     cases e2:bs[m]? with
     |none=>rw[e1,e2] at em;cases em
     |some b=>
      rw[e1,e2] at em;obtain rfl:(f,b)=q:=As em;exact G.tp (kX hb m b f e2 e1)
   have u:(O.map (·.1)).Perm (tops (canon pss)):=by
    have:=hp.map (·.1);rw[List.map_fst_zip ω] at this;exact this
   have e:O.map (·.1)=tops (canon pss):=yQ u ((List.pairwise_map.mpr hs).imp fun h=>jL.mpr h) (Gu pss);have lJ:=y.trans G;refine k D o (O.map (·.2)) (g.trans lJ) (g.free (y.free I)) (by rw[S,AK];rfl) ?_;rw[<-e];exact vl hq
end
end K8
end
section
namespace L2
open PySem PySem.Spec PyProof.Rows
def ot{cells:List (Str×Addr)}{x:Str}{c:Addr}:∀{names:List (Str×NameKind)}{acc:List (Str×Addr)},(∀y∈names,y.2=.free->∃d,cells.lookup y.1=some d)->(∀p∈acc,False)->(x,c)∈clOf cells names acc->cells.lookup x=some c/\(x,Bf)∈names:=by
 have g:∀{names:List (Str×NameKind)}{acc:List (Str×Addr)},(∀y∈names,y.2=.free->∃d,cells.lookup y.1=some d)->(x,c)∈clOf cells names acc->(x,c)∈acc\/(cells.lookup x=some c/\(x,Bf)∈names):=by
  intro names
  induction names with
  |nil=>intro acc _ h;exact .inl h
  |cons y r i=>
   intro acc e h;obtain⟨n,k⟩:=y;unfold clOf at h;have j:∀y∈r,y.2=.free->∃d,cells.lookup y.1=some d:=fun y hy=>e y (An _ hy)
   by_cases hk:(k==Bf)=true
   ·have hk':k=.free:=by cases k<;>first|rfl|cases hk
    obtain⟨d,hd⟩:=e (n,k) Aj hk';rw[if_pos hk] at h;rcases i j h with q|⟨q1,f⟩
    ·rcases List.mem_cons.mp q with q|q
     ·refine .inr ⟨?_,?_⟩
      ·have a:cells.lookup n=some d:=hd
       rw[a] at q;cases q;exact a
      ·cases q
       rw[hk'];exact Aj
     ·exact .inl q
    ·exact .inr ⟨q1,An _ f⟩
   ·rw[if_neg hk] at h
    rcases i j h with q|⟨q1,f⟩
    ·exact .inl q
    ·exact .inr ⟨q1,An _ f⟩
 intro names acc e l h;rcases g e h with q|q
 ·exact(l _ q).elim
 ·exact q
def cf_mem:∀(names:List (Str×NameKind))(h:Heap)(acc:List (Str×Addr))(x:Str)(c:Addr),(x,c)∈Bk h.objs.size names acc->(x,c)∈acc\/((x,NameKind.cell)∈names/\h.objs.size<=c/\(pushCells h names).IsCell c none)
 |[],h,acc,x,c,hm=>.inl hm
 |(n,k)::r,h,acc,x,c,hm=>by
  rw[cellsFrom.eq_2] at hm;have ep:pushCells h ((n,k)::r)=if(k==NameKind.cell)=true then pushCells (h.push {cls:=Value.type "cell",data:=Data.cell none}) r else pushCells h r:=rfl
  by_cases hk:(k==NameKind.cell)=true
  ·have hk':k=.cell:=by cases k<;>first|rfl|cases hk
   rw[if_pos hk] at hm;rw[ep,if_pos hk];have es:(h.push {cls:=Value.type "cell",data:=Data.cell none}).objs.size=h.objs.size+1:=Bi ..;rw[<-es] at hm;rcases cf_mem r _ _ x c hm with q|⟨q1,a,d⟩
   ·rcases List.mem_cons.mp q with q|q
    ·cases q
     refine .inr ⟨by rw[hk'];exact Aj,Ag _,_,pushCells_keeps r _ _ _ (Av _ rfl),rfl⟩
    ·exact .inl q
   ·rw[es] at a
    exact .inr ⟨An _ q1,Nat.le_of_succ_le a,d⟩
  ·rw[if_neg hk] at hm
   rw[ep,if_neg hk];rcases cf_mem r h acc x c hm with q|⟨q1,a,d⟩
   ·exact .inl q
   ·exact .inr ⟨An _ q1,a,d⟩
def vE:∀(names:List (Str×NameKind))(n:Nat)(acc:List (Str×Addr)),(∀x y c,(x,c)∈acc->(y,c)∈acc->x=y)->(∀p∈acc,p.2<n)->∀x y c,(x,c)∈Bk n names acc->(y,c)∈Bk n names acc->x=y
 |[],n,acc,hi,_,x,y,c,h1,h2=>hi x y c h1 h2
 |(m,k)::r,n,acc,hi,hl,x,y,c,h1,h2=>by
  rw[cellsFrom.eq_2] at h1 h2
  by_cases hk:(k==NameKind.cell)=true
  ·rw[if_pos hk] at h1 h2
   refine vE r (n+1) ((m,n)::acc) (fun x y c p q=>?_) (fun p hp=>?_) x y c h1 h2
   ·rcases List.mem_cons.mp p with p|p<;>rcases List.mem_cons.mp q with q|q
    ·cases p;cases q;rfl
    ·cases p
     have:n<n:=hl _ q;omega
    ·cases q
     have:n<n:=hl _ p;omega
    ·exact hi x y c p q
   ·rcases List.mem_cons.mp hp with rfl|hp
    ·exact Nat.lt_succ_self _
    ·exact AF (hl p hp)
  ·rw[if_neg hk] at h1 h2
   exact vE r n acc hi hl x y c h1 h2
def GG{M:Model}{A:Around}{E:Ω}{s:Shared}{scope:Scope}{globals:Addr}{a:List (Str×Addr)}{f:Str}{env:Env}{Q:Env->Shared->Prop}(h:∀d:Heap,(d.Ns s⁻¹ fun _=>none)->(∀b o,s.heap.get? b=some o->d.get? b=some o)->
   (∀x c,(x,c)∈Bk (s⁻¹+1) scope.names a->(x,c)∈a\/((x,NameKind.cell)∈scope.names/\s⁻¹+1<=c/\d.IsCell c none))->
   Q (newEnv scope s⁻¹ globals (Bk (s⁻¹+1) scope.names a) f none .none (some env) builtinsNs) {s with heap:=d}):
  wpAny M A (newFunctionEnv scope globals a [] f none Value.none (some env)) Q E s:=by
 unfold newFunctionEnv;refine Aa (wpAny_alloc ?_);refine Aa (wpAny_layCells _ (fun name kind cells=>rfl) scope.names a _ _ ?_);have es:(s.heap.push {cls:=Value.type "dict",data:=Data.dict #[]}).objs.size=s⁻¹+1:=Bi ..;have:=h (pushCells (s.heap.push {cls:=Value.type "dict",data:=Data.dict #[]}) scope.names) ((Heap.Ns.new s.heap (.type "dict")).keeps fun b o e=>pushCells_keeps _ _ _ _ e) (fun b o e=>pushCells_keeps _ _ _ _ (Ac _ e)) (fun x c hm=>by
  rw[<-es] at hm ⊢;exact cf_mem scope.names _ a x c hm)
 show wpAny M A _ _ _ _;refine Aa (Ad ?_);refine Ad ?_;rw[<-es] at this;exact this
def cxD(X:Cx)(scope:Scope)(N:List Str)(a:List (Str×Addr))(C:Addr)(s₀:Shared)(H₀:Hp)(ex:List Addr):Cx:={cxC X scope N a C s₀ H₀ ex with fn:=fun x=>decide (scope.names.lookup x=some .cell)}
section
variable{X:Cx}{scope:Scope}{N':List Str}{ap:List (Option Nat)}{tg iter aI:Expr}{aD:List Expr}{wi:TI}{g:TG}{tc:TT}{te:TE}{pos:Pos}
def GH(hc:X.calm=true)(hk:scope.kind=.function)(c0:∀y∈scope.names,y.2=.cell->scope.names.lookup y.1=some .cell)(cW:∀y∈scope.names,y.2=.free->scope.names.lookup y.1=some .free)(av:∀y∈scope.names,y.2=.local->scope.names.lookup y.1=some .local)(hfr:∀y∈scope.names,y.2=.free->X.env.kindOf y.1=some .cell\/X.env.kindOf y.1=some .free)(aF:hF X.N N' ap scope)(hi:PI X tg iter wi)(hg:∀cl C s₀ H₀ ex,PG (cxD X scope N' cl C s₀ H₀ ex) tg g)(ht:∀cl C s₀ H₀ ex,dh (cxD X scope N' cl C s₀ H₀ ex) aD tc)(he:∀cl C s₀ H₀ ex,PE (cxD X scope N' cl C s₀ H₀ ex) aI te)(hs:∀x,Be iter X.env x=pure x:=by intro _;rfl):PE X (.ListComp aI [⟨tg,iter,aD,0⟩] scope pos) (er wi ap g tc te):=by
 intro aa s σ H Q I h;have O:∀y∈scope.names,y.2=.free->∃c,X.env.cells.lookup y.1=some c:=fun y hy e=>I.ok.has y.1 (hfr y hy e);rw[eval_ListComp];refine wpAny_comprehension_free (use:=none) rfl hs (rx O) hk av ?_;refine bd (hi aa s σ H _ I h) fun xv s1 h1=>bd h1 fun jr M h2=>?_;obtain⟨it,fp,tn,J,H2,e,I2,T,a_,f2,q⟩:=h2;subst e;have c9:H2 M⁻¹=none:=I2.hok.fresh (Ag _);obtain⟨W,⟨m0,w0⟩,turn⟩:=q M⁻¹ c9;refine AS (GG fun al aJ cr cp=>?_);dsimp only at aJ cr cp ⊢;generalize hD:M⁻¹=D at *;obtain⟨l,e3⟩:∃l:Shared,l={M with heap:=M.heap.push {cls:=.type "list",dict:=none,data:=.seq ([]:List Value).toArray}}:=⟨_,rfl⟩;have h3:l.heap=M.heap.push {cls:=.type "list",dict:=none,data:=.seq ([]:List Value).toArray}:=by rw[e3]
 rw[<-h3] at aJ cr cp ⊢;have ah:l⁻¹=D+1:=by rw[h3,Bi,hD]
 have I3:Inv X aa σ (upd H2 D (.lst [])) l:=by
  rw[e3,<-hD];exact I2.lnew (t':=M.toks) (ys:=[]) .nil (AW _)
 obtain⟨Xc,E⟩:∃Xc,Xc=cxD X scope N' (Bk (l⁻¹+1) scope.names (clOf X.env.cells scope.names [])) l⁻¹ l (upd H2 D (.lst [])) fp:=⟨_,rfl⟩;have gk:PG Xc tg g:=by rw[E];exact hg _ _ _ _ _
 have ht':dh Xc aD tc:=by rw[E];exact ht _ _ _ _ _
 have he':PE Xc aI te:=by rw[E];exact he _ _ _ _ _
 have xP:Xc.prog=X.prog:=by rw[E];rfl
 have xw:Xc.w=X.w:=by rw[E];rfl
 have xK:Xc.K=X.K:=by rw[E];rfl
 have xA:Xc.A=X.A:=by rw[E];rfl
 have xc:Xc.calm=true:=by rw[E];exact hc
 have xe:Xc.env=compEnvC scope (Bk (l⁻¹+1) scope.names (clOf X.env.cells scope.names [])) l⁻¹ X.env:=by rw[E];rfl
 have xE:Xc.xe=fun _ _=>False:=by rw[E];rfl
 have G:∀x c,(Bk (l⁻¹+1) scope.names (clOf X.env.cells scope.names [])).lookup x=some c->(X.env.cells.lookup x=some c/\scope.names.lookup x=some .free)\/(scope.names.lookup x=some .cell/\l⁻¹+1<=c/\al.IsCell c none):=fun x c e=>by
  rcases cp x c (AV e) with q|⟨q1,q2,q3⟩
  ·obtain⟨q4,q5⟩:=ot O (fun p hp=>absurd hp (by simp)) q
   exact .inl ⟨q4,cW _ q5 rfl⟩
  ·exact .inr ⟨c0 _ q1 rfl,q2,q3⟩
 have hlow:∀p∈clOf X.env.cells scope.names [],p.2<l⁻¹+1:=fun p hp=>by
  obtain⟨q4,_⟩:=ot O (fun p hp=>absurd hp (by simp)) (x:=p.1) (c:=p.2) hp;obtain⟨v,o,ho,_⟩:=I3.cell p.1 p.2 q4;exact AF (Ah ho)
 have P:∀b∈fp,b≠D/\b<D:=fun b hb=>by
  obtain⟨ob,eb,_⟩:=T.obj 0 _ a_ b hb;have:=Ah eb;rw[hD] at this;exact⟨Al this,this⟩
 have hfs:∀b∈frs X.stack,b<D:=fun b hb=>by
  obtain⟨_,ob,eb,_⟩:=I2.stack.mem hb;have:=Ah eb;rw[hD] at this;exact this
 have F:∀b o,l.heap.get? b=some o->al.get? b=some o:=cr;have hCf:(upd H2 D (.lst [])) l⁻¹=none:=I3.hok.fresh (Ag _);have Ic:Inv Xc aa (fq ap σ) (upd H2 D (.lst [])) {l with heap:=al}:=by
  have okc:Xc.Ok:=by
   rw[E];refine⟨I.ok.mod,hk,I.ok.glob,I.ok.blt,Ag _,fun x y c a b=>vE scope.names _ _ (fun x y c p q=>I.ok.inj x y c (ot O (fun p hp=>absurd hp (by simp)) p).1 (ot O (fun p hp=>absurd hp (by simp)) q).1) hlow x y c (AV a) (AV b),fun x hx=>?_,(fun x c a e=>by
    rcases G x c e with ⟨_,q⟩|⟨_,q,_⟩
    ·have a':=of_decide_eq_true a
     rw[q] at a';cases a'
    ·exact Nat.le_of_succ_le q),I.ok.hd,I.ok.frames,.inl rfl,fun b hb=>⟨?_,fun x c e=>?_⟩,fun b o e=>?_,?_,fun b o e z=>?_,fun b hb z=>?_,?_,fun b hb=>?_⟩
   ·have eB:(relabel scope X.env).names.lookup x=some .cell\/(relabel scope X.env).names.lookup x=some .free:=hx
    have key:∃U,scope.names.lookup x=some U/\(U=.free\/U=.cell):=by
     rcases eB with q|q
     ·obtain⟨U,e1,e2⟩:=iJ q
      rcases e2 with e2|⟨e2,_⟩
      ·exact⟨U,e1,.inr e2.symm⟩
      ·exact⟨U,e1,.inl e2⟩
     ·obtain⟨U,e1,e2⟩:=iJ q
      rcases e2 with e2|⟨e2,_⟩
      ·exact⟨U,e1,.inl e2.symm⟩
      ·exact⟨U,e1,.inl e2⟩
    obtain⟨U,e1,e2⟩:=key;have hm:=AV e1;rcases e2 with rfl|rfl
    ·obtain⟨c,eG⟩:=g_ (cells:=X.env.cells) (acc:=[]) (.inl hm)
     obtain⟨d,hd⟩:=zu eG;exact Option.isSome_iff_exists.mp (PySem.W.cellsFrom_some scope.names (l⁻¹+1) _ (.inr (by rw[hd];rfl)))
    ·exact Option.isSome_iff_exists.mp (PySem.W.cellsFrom_some scope.names (l⁻¹+1) _ (.inl e1))
   ·show b≠l⁻¹
    exact Al (by rw[ah];exact AF (P b hb).2)
   ·rcases G x c e with ⟨q,_⟩|⟨_,q,_⟩
    ·exact(f2 b hb).2.2.2.2.1 x c q
    ·have h1:b<l⁻¹+1:=by rw[ah];exact AF (AF (P b hb).2)
     exact Nat.ne_of_gt (Ay h1 q)
   ·exact I3.bs b o e
   ·exact AA I.ok.bsz I3.sz
   ·obtain⟨f,_,_,fx,_,_⟩:=f2 b z
    rcases fx with fx|fx
    ·exact I.ok.noex b o e fx
    ·have:=Ay (Ah e) I.ok.bsz
     omega
   ·rcases List.mem_cons.mp (I2.stkSub b z) with r|r
    ·exact(f2 b hb).2.1 r
    ·exact(f2 b hb).2.2.1 r
   ·exact I3.stack
   ·exact I3.stkFree b hb
  refine⟨okc,(by rw[E];rfl),I3.bare,?_,?_,fun x c e=>?_,?_,fun x c e=>?_,fun p hp=>?_,?_,?_⟩
  ·rw[E]
   exact Un.kept F
  ·rw[xe]
   refine⟨_,aJ,fun i x v e1 e2 e3=>?_⟩;obtain⟨c1,c2⟩:=aF;unfold fq at e2;rw[Ar] at e2;cases e4:ap[i]? with
   |none=>rw[e4] at e2;cases e2
   |some cc=>
    rw[e4] at e2;cases cc with
    |none=>cases e2
    |some j=>
     obtain⟨y,d1,d2,d3⟩:=c2 i j e4;have bV:N'[i]?=some x:=by rw[E] at e1;exact e1
     rw[d1] at bV;have iN:y=x:=As bV;subst iN;have e5:σ[j]?=some (some v):=by
      simp only[Option.map_some,Option.some.injEq] at e2;cases e6:σ[j]? with
      |none=>rw[e6] at e2;cases e2
      |some ov=>rw[e6] at e2;simp only[Option.getD_some] at e2;rw[e2]
     have hm:=AV d3;have jy:ij X.env.scope y:=by
      rcases hfr _ hm rfl with q|q
      ·exact .inr (.inl q)
      ·exact .inr (.inr q)
     obtain⟨m,_,hl⟩:=I3.loc;obtain⟨u,ru,lk⟩:=hl j y v d2 e5 jy;refine⟨u,ru,?_⟩;have jw:∃c,X.env.cells.lookup y=some c/\l.heap.IsCell c (some u):=by
      rcases lk with ⟨k1,_⟩|⟨_,c,k2,k3⟩
      ·rcases hfr _ hm rfl with q|q
       ·rw[k1] at q;cases q
       ·rw[k1] at q;cases q
      ·exact⟨c,k2,k3⟩
     obtain⟨c,k2,k3⟩:=jw;obtain⟨d,hd'⟩:=g_ (cells:=X.env.cells) (acc:=[]) (.inl hm);obtain⟨d',aW⟩:=zu hd';obtain⟨d2,nK⟩:=Option.isSome_iff_exists.mp (PySem.W.cellsFrom_some scope.names (l⁻¹+1) (clOf X.env.cells scope.names []) (x:=y) (.inr (by rw[aW];rfl)));have:c=d2:=by
      rcases G y d2 nK with ⟨q,_⟩|⟨q,_⟩
      ·rw[k2] at q
       exact As q
      ·rw[d3] at q;cases q
     subst this;refine .inr ⟨?_,c,nK,k3.keeps F⟩;have rl:=kP (scope:=scope) (env:=X.env) (x:=y) (names:=scope.names) (.inl d3);rcases rl with q|q
     ·exact .inr q
     ·exact .inl q
  ·rw[xe] at e
   rcases G x c e with ⟨q,_⟩|⟨_,_,q⟩
   ·obtain⟨v,k3⟩:=I3.cell x c q
    exact⟨v,k3.keeps F⟩
   ·exact⟨_,q⟩
  ·rw[xe];exact hCf
  ·rw[xe] at e
   rcases G x c e with ⟨q,_⟩|⟨_,q,_⟩
   ·exact I3.freeC x c q
   ·exact I3.hok.fresh (Nat.le_of_succ_le q)
  ·have bz:p∈X.pn++aa:=by rw[E] at hp;exact hp
   obtain⟨a1,a2,a3,a4,a5⟩:=I3.pin p bz;refine⟨F _ _ a1,a2,?_,?_,a5⟩
   ·rw[xe]
    show p.1≠l⁻¹;exact Al (Ah a1)
   ·rw[E]
    intro z;rcases List.mem_cons.mp (I3.stkSub p.1 z) with r|r
    ·exact a3 r
    ·exact a4 r
  ·rw[xP,xw]
   exact I3.hok.kept F
  ·unfold fq
   rw[Ab,aF.1,E]
   rfl
 have leave:∀{L:St}{H':Hp}{Y:Shared}{h':Heap},Inv Xc aa L H' Y->A4 l⁻¹ Y.heap h'->Inv X aa σ H' {Y with heap:=h'}:=fun{L H' Y h'} I4 ax=>by
  have Z:∀b o,M.heap.get? b=some o->b≠D/\b≠l⁻¹:=fun b o e=>by
   have hb:=Ah e;rw[hD] at hb;exact⟨Al hb,Al (by rw[ah];exact AF hb)⟩
  have up3:∀b o,M.heap.get? b=some o->l.heap.get? b=some o:=fun b o e=>by rw[h3];exact Ac _ e
  have base:Un (frs X.stack) fp (upd H2 D (.lst [])) H' l.heap Y.heap:=by
   have:=I4.base;rw[E] at this;exact this
  have hCn:H' l⁻¹=none:=by
   have:=I4.free;rw[xe] at this;exact this
  have os4:Y.os=M.os:=by
   have:=I4.os;rw[E] at this;rw[this];show l.os=M.os;rw[e3]
  refine I2.call' (s':={Y with heap:=h'}) (ch:=fp) os4 ⟨fun b o q n hb hx=>?_,fun b o q n hb hx=>?_,fun b o q n hx=>?_,fun b o q hx=>?_,fun b xs q=>?_,fun b o u q=>?_,fun b ps q=>?_⟩ ?_ I4.bare fun b hb=>?_
  ·obtain⟨n1,n2⟩:=Z b o q
   exact(ax.2 b n2).trans (base.keep b o (up3 b o q) (by rw[zi n1];exact n) hb hx)
  ·obtain⟨n1,n2⟩:=Z b o q
   obtain⟨sl,e⟩:=base.slot b o (up3 b o q) (by rw[zi n1];exact n) hb hx;exact⟨sl,(ax.2 b n2).trans e⟩
  ·obtain⟨n1,n2⟩:=Z b o q
   exact base.free b o (up3 b o q) (by rw[zi n1];exact n) hx
  ·obtain⟨n1,n2⟩:=Z b o q
   obtain⟨o',e⟩:=base.there b o (up3 b o q) hx;exact⟨o',(ax.2 b n2).trans e⟩
  ·exact base.tups b xs (by rw[zi (zj q c9)];exact q)
  ·exact base.frzs b o u (by rw[zi (zj q c9)];exact q)
  ·exact base.tbls b ps (by rw[zi (zj q c9)];exact q)
  ·intro b u e
   have dH:=I4.hok b u e;rw[xP,xw] at dH;refine dH.stay (fun c v hc q=>(ax.2 c ?_).trans q) (fun _ q=>q) fun _ _ q=>q;rintro rfl;rcases hc with z|z
   ·rw[<-z,hCn] at e;cases e
   ·rw[hCn] at z;cases z
  ·obtain⟨f0,f1,f3,f4,f5,f6⟩:=f2 b hb
   exact⟨f4,f1,f5,f6⟩
 have S:∀{H':Hp},(∀b∈fp,H' b=none)->∀b∈fp,bD Xc aa H' b:=fun{H'} hn b hb=>by
  obtain⟨f0,f1,f3,f4,f5,f6⟩:=f2 b hb;refine⟨hn b hb,?_,?_,.inl (by rw[E];exact hb),fun x c e=>?_,fun p hp=>?_⟩
  ·rw[xe]
   show b≠l⁻¹;exact Al (by rw[ah];exact AF (P b hb).2)
  ·rw[E]
   intro z;rcases List.mem_cons.mp (I2.stkSub b z) with r|r
   ·exact f1 r
   ·exact f3 r
  ·rw[xe] at e
   rcases G x c e with ⟨q,_⟩|⟨_,q,_⟩
   ·exact f5 x c q
   ·have h1:b<l⁻¹+1:=by rw[ah];exact AF (AF (P b hb).2)
    exact Nat.ne_of_gt (Ay h1 q)
  ·rw[E] at hp
   exact f6 p hp
 subst E;have loop:∀n s',(∃i L H',Inv (cxD X scope N' (Bk (l⁻¹+1) scope.names (clOf X.env.cells scope.names [])) l⁻¹ l (upd H2 D (.lst [])) fp) aa L H' s'/\tn i s'.heap/\(∀b∈fp,H' b=none)/\W i n L H')->
   codeAny (model X.prog X.w) X.A (.compLoop (.ListComp aI [⟨tg,iter,aD,0⟩] scope pos) 0 (.ref it) (.ref D) (compEnvC scope (Bk (l⁻¹+1) scope.names (clOf X.env.cells scope.names [])) l⁻¹ X.env)) (compPost (model X.prog X.w) X.A X.xe none (EP X aa σ Q) (.ref D) l⁻¹) s':=by
  intro n0 oj jH;refine codeAny_loop rfl (fun n s'=>∃i L H',Inv (cxD X scope N' (Bk (l⁻¹+1) scope.names (clOf X.env.cells scope.names [])) l⁻¹ l (upd H2 D (.lst [])) fp) aa L H' s'/\tn i s'.heap/\(∀b∈fp,H' b=none)/\W i n L H') (fun n s' hI=>?_) n0 jH;obtain⟨i,L,H',I',af,eI,w'⟩:=hI;show wpAny _ X.A ((compTurn (.ListComp aI [⟨tg,iter,aD,0⟩] scope pos) 0 (.ref it) (.ref D) (compEnvC scope (Bk (l⁻¹+1) scope.names (clOf X.env.cells scope.names [])) l⁻¹ X.env)).onRaise (fun x=>do noteFrame x (compEnvC scope (Bk (l⁻¹+1) scope.names (clOf X.env.cells scope.names [])) l⁻¹ X.env);theTreesLotGoes x)) _ _ s';refine wpAny_noted ?_;rw[compTurn_list];refine Aa (wpAny_standAt (Aa ?_));rcases turn i n L H' w' with ⟨stop,qn⟩|⟨go,step⟩
  ·refine bd (T.done (cxD X scope N' (Bk (l⁻¹+1) scope.names (clOf X.env.cells scope.names [])) l⁻¹ l (upd H2 D (.lst [])) fp) rfl rfl rfl hc i aa s' L H' _ I' (S eI) af stop) fun r Y ⟨hr,I4⟩=>?_
   subst hr;refine Ad ?_;obtain⟨m,hn,_⟩:=id I4.loc;exact⟨m,hn,fun h' ax=>⟨.ref D,H',leave I4 ax,rfl,qn⟩⟩
  ·refine bd (T.item (cxD X scope N' (Bk (l⁻¹+1) scope.names (clOf X.env.cells scope.names [])) l⁻¹ l (upd H2 D (.lst [])) fp) rfl rfl rfl hc i aa s' L H' _ I' (S eI) af go) fun r Y ⟨u,hr,h4⟩=>?_
   subst hr;refine Aa (bd h4 fun _ s5 ⟨x,H5,I5,r5,y5,st5,fr5⟩=>?_);have I5':=I5.pinned (S fr5) (T.obj _ _ st5);refine Aa (Bb (gk _ s5 L H5 x u _ I5' r5 (step x H5 y5)) (fun _ s6 h6=>?_) fun _ _ z=>z.elim);obtain⟨dA,H6,I6,q6⟩:=h6;refine Aa (Bb (ht' _ s6 dA H6 _ I6 q6) (fun ok s7 h7=>?_) fun _ _ z=>z.elim);obtain⟨H7,I7,q7⟩:=h7;have again:∀{dc:St}{H8:Hp}{s8:Shared}{m':Nat},Inv (cxD X scope N' (Bk (l⁻¹+1) scope.names (clOf X.env.cells scope.names [])) l⁻¹ l (upd H2 D (.lst [])) fp) (aa++iy fp s5.heap) dc H8 s8->m'<n->W (i+1) m' dc H8->
     ∃m,m<n/\∃i L H',Inv (cxD X scope N' (Bk (l⁻¹+1) scope.names (clOf X.env.cells scope.names [])) l⁻¹ l (upd H2 D (.lst [])) fp) aa L H' s8/\tn i s8.heap/\(∀b∈fp,H' b=none)/\W i m L H':=fun{dc H8 s8 m'} I8 hm w8=>by
    refine⟨m',hm,i+1,dc,H8,I8.unpinned,T.keep _ _ _ st5 fun b hb o e=>(I8.pin (b,o) (AB _ (AB _ (z0 hb e)))).1,fun b hb=>?_,w8⟩;obtain⟨o,e,d⟩:=T.obj _ _ st5 b hb;exact(I8.pin (b,o) (AB _ (AB _ (z0 hb e)))).2.1
   cases ok with
   |false=>
    obtain⟨m',hm,w7⟩:=q7;exact Ad ⟨rfl,again I7 hm w7⟩
   |true=>
    refine Aa (Aa (Bb (he' _ s7 dA H7 _ I7 q7) (fun v s8 h8=>?_) fun _ _ z=>z.elim));obtain⟨y,H8,I8,r8,ys,m',i5,jq,jo,w8⟩:=h8;refine Aa (Bb (gC (X:=cxD X scope N' (Bk (l⁻¹+1) scope.names (clOf X.env.cells scope.names [])) l⁻¹ l (upd H2 D (.lst [])) fp) _ s8 dA H8 (.ref D) [y] (.ref D) [v] (fun _ H9=>H9=upd H8 D (.lst (ys++[y]))) I8 rfl (.cons r8 .nil) ⟨D,ys,y,rfl,rfl,i5,jq,rfl⟩) (fun _ s9 h9=>?_) fun _ _ z=>z.elim);obtain⟨_,H9,I9,_,e9⟩:=h9;subst e9;exact Ad (Ad ⟨rfl,again I9 jo w8⟩)
 have start:∃i L H',Inv (cxD X scope N' (Bk (l⁻¹+1) scope.names (clOf X.env.cells scope.names [])) l⁻¹ l (upd H2 D (.lst [])) fp) aa L H' {l with heap:=al}/\tn i ({l with heap:=al}:Shared).heap/\(∀b∈fp,H' b=none)/\W i m0 L H':=by
  refine⟨0,fq ap σ,upd H2 D (.lst []),Ic,T.keep 0 _ _ a_ fun b hb o e=>F b o (by rw[h3];exact Ac _ e),fun b hb=>?_,w0⟩;rw[zi (P b hb).1];exact(f2 b hb).1
 have es:({M with heap:=al}:Shared)={l with heap:=al}:=by rw[e3]
 show codeAny (model X.prog X.w) X.A _ _ ({M with heap:=al}:Shared);rw[es];refine codeAny_compStart_list (loop m0 _ start) (T.self _ 0 _ _ _ ?_ (loop m0 _ start));exact T.keep 0 _ _ a_ fun b hb o e=>F b o (by rw[h3];exact Ac _ e)
end
end L2
end
section
namespace L2
open PySem PySem.Spec PyProof.Rows
section
variable{X:Cx}{scope:Scope}{ap:List (Option Nat)}{tg iter aI:Expr}{aD:List Expr}{wi:TI}{g:TG}{tc:TT}{te:TE}{pos:Pos}
def zc(N N':List Str)(ap:List (Option Nat))(hi:PI X tg iter wi)(c:∀a C s₀ H₀ ex,PG (cxD X scope N' a C s₀ H₀ ex) tg g)(ht:∀a C s₀ H₀ ex,dh (cxD X scope N' a C s₀ H₀ ex) aD tc)(he:∀a C s₀ H₀ ex,PE (cxD X scope N' a C s₀ H₀ ex) aI te)(hc:X.calm=true:=by rfl)(hk:scope.kind=.function:=by rfl)(d:∀y∈scope.names,y.2=.cell->scope.names.lookup y.1=some .cell:=by decide +kernel)(e:∀y∈scope.names,y.2=.free->scope.names.lookup y.1=some .free:=by decide +kernel)(f:∀y∈scope.names,y.2=.local->scope.names.lookup y.1=some .local:=by decide +kernel)(hfr:∀y∈scope.names,y.2=.free->X.env.kindOf y.1=some .cell\/X.env.kindOf y.1=some .free)(h:X.N=N:=by rfl)(i:eC N N' ap scope=true:=by decide +kernel)(hs:∀x,Be iter X.env x=pure x:=by intro _;rfl):PE X (.ListComp aI [⟨tg,iter,aD,0⟩] scope pos) (er wi ap g tc te):=
 GH hc hk d e f hfr (lj (by rw[h];exact i)) hi c ht he hs
end
def z_{env env0:Env}{scope a:Scope}(c:env.scope=relabel a env0)(h:scope.names.all (fun y=>decide (y.2≠.free)|| decide (a.names.lookup y.1=some .cell)|| decide (a.names.lookup y.1=some .free))=true):∀y∈scope.names,y.2=.free->env.kindOf y.1=some .cell\/env.kindOf y.1=some .free:=by
 intro y hy e;have:=List.all_eq_true.mp h y hy;simp only[Bool.or_eq_true,decide_eq_true_eq] at this;have key:a.names.lookup y.1=some .free\/a.names.lookup y.1=some .cell:=by
  rcases this with (q|q)|q
  ·exact absurd e q
  ·exact .inr q
  ·exact .inl q
 have:=kP (scope:=a) (env:=env0) key;unfold Env.kindOf;rw[c];rcases this with q|q
 ·exact .inr q
 ·exact .inl q
end L2
end
section
namespace K8
open K1
open PySem L2 STb
abbrev ou:Stmt:=top 48
def A_(q:Int):∀os:List Int,iH (.int q) (os.map V.int)=decide (q∈os)
 |[]=>by simp[iH]
 |o::r=>by
  have a:=A_ q r;unfold iH at a ⊢;rw[AT,List.any_cons,a];show((o==q)|| _)=_
  by_cases e:o=q
  ·subst e;simp
  ·have:¬q=o:=fun z=>e z.symm
   simp[e,this]
def GI(os:List Int):(os.map V.int).all dL=true:=by
 rw[List.all_map,List.all_eq_true];exact fun _ _=>rfl
abbrev Bm(K:Ae):List V->Hp->VK->Prop:=fun xs H Q=>∃p ys,xs=[.ref p]/\(SqL K H p ys\/SqT K H p ys)/\Q (.int ys.length) H
abbrev GJ(K:Ae):List V->Hp->VK->Prop:=fun xs H Q=>∃(l:Addr)(bs:List Bool),xs=[.ref l]/\SqL K H l (bs.map V.bl)/\Q (.bl (bs.all id)) H
abbrev i9(K:Ae):TE:=cV (w5 K false) (aY 0) (aY 1)
abbrev Bn(K:Ae):TT:=j9 (jm (cV (fg fun i j=>.bl (decide (j<i))) (gb (Bm K) (zB (aY 0) bJ)) (gb (Bm K) (zB (aY 1) bJ)))) (tB (gb (GJ K) (zB (er (ix K (aY 1)) [none,some 0] (cm 0) bN (i9 K)) bJ)))
section
variable{P:Program}{w:World}{K:Ae}{mg:Str->Option Value}{base:Heap}
def GK{H2:Hp}{a o D:Addr}{ps os:List Int}{Q:VK}(i:Tp H2 a ps)(l:Tp H2 o os)(p:ps.length<=5)(g:H2 D=none)(k:∀c,Same H2 c->c D=some (.lst ((ps.map fun x=>decide (x∈os)).map V.bl))->Q (.ref D) c):cw (gm K a) (cm 0) bN (i9 K) [none,some (.ref o)] H2 D Q:=by
 refine rN (xs:=ps.map V.int) (fun j σ ys c=>∃v,σ=[v,some (.ref o)]/\Same H2 c/\c D=some (.lst ys)/\ys=((ps.map fun x=>decide (x∈os)).take j).map V.bl) ?_ ?_ ?_ ?_
 ·exact⟨none,rfl,Same.new g,am,rfl⟩
 ·rintro j σ ys c ⟨v,rfl,d,f,rfl⟩
  exact SqT.of (d.tp i)
 ·rintro j σ ys c x hx h hy ⟨v,rfl,d,f,rfl⟩
  obtain⟨q,eq,rfl⟩:=iV hx;have e:(ps.map fun x=>decide (x∈os))[j]?=some (decide (q∈os)):=by rw[Ar,eq];rfl
  refine cb ?_;refine⟨_,rfl,_,rfl,o,_,rfl,.inr (SqT.of (d.tp l)),rfl,GI os,?_⟩;rw[if_neg ξ,A_];exact bO (by rw[Ab];exact zd ω) h hy f ⟨_,rfl,d.then g,am,by rw[AN e,Au];rfl⟩
 ·rintro σ ys c ⟨v,rfl,d,f,rfl⟩
  rw[At (by simp)] at f;exact k c d f
def GL{H2:Hp}{L a D:Addr}{as:List Addr}{h:Ξ}{ps:List Int}{Q:VK}(H:SqL K H2 L (as.map V.ref))(ht:Tps H2 as h)(I:Tp H2 a ps)(M:h.length<=1000)(hp:ps.length<=5)(u:H2 D=none)(k:∀(c:Hp)(bs:List Addr),Same H2 c->c D=some (.lst (bs.map V.ref))->bs.length=(h.filter fun o=>over o ps).length->Q (.ref D) c):cw (du K L) (cm 0) (Bn K) (aY 0) [none,some (.ref a)] H2 D Q:=by
 have E:=ht.length;refine zR (xs:=as.map V.ref) (fun j σ ys c=>∃(v:Option V)(bs:List Addr),σ=[v,some (.ref a)]/\Same H2 c/\c D=some (.lst ys)/\ys=bs.map V.ref/\bs.length=((h.take j).filter fun o=>over o ps).length) ?_ ?_ ?_ ?_
 ·exact⟨none,[],rfl,Same.new u,am,rfl,rfl⟩
 ·rintro j σ ys c ⟨v,bs,rfl,d,f,rfl,_⟩
  exact d.seq H
 ·rintro j σ ys c x hx q hy ⟨v,bs,rfl,d,f,rfl,hb⟩
  obtain⟨o,A,rfl⟩:=dR hx;obtain⟨os,r,C⟩:=ht.get A;have s:=d.tp C;have p:=d.tp I;have F:(as.map V.ref).length<=sizeLine:=by rw[Ab];exact zd ω
  have skip:∀i,Same c i->over os ps=false->cC (as.map V.ref).length (fun j σ ys c=>∃(v:Option V)(bs:List Addr),σ=[v,some (.ref a)]/\Same H2 c/\c D=some (.lst ys)/\ys=bs.map V.ref/\bs.length=((h.take j).filter fun o=>over o ps).length) j [some (.ref o),some (.ref a)] i:=fun i e l=>
   eX q hy ⟨_,bs,rfl,d.trans e,e _ _ f,rfl,by rw[AN r,Bg,List.filter_cons_of_neg (by rw[l];decide)];simpa using hb⟩
  refine⟨_,rfl,o,_,rfl,.inr (SqT.of s),_,rfl,a,_,rfl,.inr (SqT.of p),_,_,rfl,rfl,_,rfl,?_⟩;refine bU (fun g=>?_) (fun g=>?_)
  ·have g':ps.length<os.length:=by
    have:=of_decide_eq_true g;simp only[Ab] at this;omega
   refine⟨_,rfl,a,rfl,⟨_,SqT.of p⟩,fun J w=>zA (GK p s hp w fun i e y=>⟨J,_,rfl,SqL.of y,_,rfl,?_⟩)⟩;have G:(ps.map fun x=>decide (x∈os)).all id=over os ps:=by
    unfold over;rw[decide_eq_true g',Bool.true_and,List.all_map];rfl
   rw[G];cases l:over os ps with
   |true=>
    refine be ⟨_,rfl,bO F q hy (e _ _ f) ⟨_,bs++[o],rfl,(d.trans e).then u,am,by rw[Au];rfl,?_⟩⟩;rw[AN r,Bg,List.filter_cons_of_pos (by rw[l]),Aq,Aq,hb]
    rfl
   |false=>exact bg (skip i e l)
  ·have g':¬ps.length<os.length:=fun z=>g (decide_eq_true (by simp only[Ab];omega))
   exact bg (skip c (Same.refl c) (by unfold over;rw[decide_eq_false g'];rfl))
 ·rintro σ ys c ⟨v,bs,rfl,d,f,rfl,hb⟩
  rw[Ab,E,At (Ag _)] at hb;exact k c bs d f hb
def vH(K:Ae):Sp:=fun vs H Q _=>∃l as pss,vs=[.ref l]/\SqL K H l (as.map V.ref)/\Tps H as pss/\(∀q∈pss,zZ q=true)/\pss.length<=200/\(canon pss).length<1000/\∀D H2 bs,Same H H2->H D=none->H2 D=some (.lst (bs.map V.ref))->Tps H2 bs (tops (canon pss))->Q (.ref D) H2
def ow:zo ["web","known","found","piece"] ["web"] (zf ou):=⟨rfl,rfl,rfl,δ,rfl,δ,δ⟩
def GM{f T:Addr}{fd U:FuncData}(F:Fun K "_law_greatest" "_law_greatest" ou f fd)(B:Bt mg)(Fl:Fun K "_law_pieces" "_law_pieces" n8 T U)(bl:Binds K U ["web"] [])(ml:mg "_law_pieces"=some (.ref T))(Gl:FnOk P w K mg base aT 2 T U ["web"] (jJ K)):FnOk P w K mg base aT 3 f fd ["web"] (vH K):=by
 refine F.ok ow (fun vs H Q E h=>?_) (fun cdv A outer s H vs Q E hr h=>?_)
 ·obtain⟨l,as,pss,rfl,_⟩:=h;rfl
 ·obtain⟨l,as,pss,rfl,hl,ht,u,L,b_,k⟩:=h
  refine⟨_,ze (zr (i:=1) ow.nd rfl (Or.inl rfl) (zx Gl hr rfl ml Fl.kp bl .nil aw (ae (pv 0) aq)))
   (ze (zr (i:=2) ow.nd rfl (Or.inl rfl) (zI aq))
   (ze (ee Bc rfl (zF (pv 1)) (zn (i:=3) ow.nd rfl (Or.inr rfl))
    (zg (zS (zq dI (zm zl rfl B.len cP (ae (zc ["web","known","found","piece"] ["one","piece"] [none,some 3] (zF (pv 1)) (fun r C s₀ H₀ ex=>zn (i:=0) (cz ["one","piece"]) rfl (Or.inr rfl))
      (fun r C s₀ H₀ ex=>nk (PW.pt (o_ (zq gU (zm zl rfl B.len cP (ae (pv 0) aq)) (zm zl rfl B.len cP (ae (pv 1) aq)) (au _))
       (o9 (jj (zm (nq rfl) rfl B.all nV (ae (zz ["one","piece"] ["point","one"] [none,some 0] (jk (pv 1)) (fun r C s₀ H₀ ex=>zn (i:=0) (cz ["point","one"]) rfl (Or.inl rfl)) (fun r C s₀ H₀ ex=>zG)
        (fun r C s₀ H₀ ex=>gY w6 (pv 0) (pv 1) (by with_unfolding_all rfl)) (hfr:=z_ rfl δ) (te:=i9 K)) aq)))))))
      (fun r C s₀ H₀ ex=>pv 0) (hfr:=fz (zf ou) δ) (tc:=Bn K)) aq)) zh (au _))
     (zg (fM (zW AU PySem.F.slot_list_append PySem.F.type_list_append gC (pv 2) (ae (pv 3) aq)))) zt)))
   (zg (zp (pv 2))))),?_⟩
  have h5:∀q∈pss,q.length<=5:=fun q hq=>(zL.mp (u q hq)).2.1;refine⟨_,rfl,l,as,pss,rfl,hl,ht,h5,L,(by rw[<-i4];exact b_),fun j H1 qs t=>?_⟩;obtain⟨ks,X,qZ,M,Y⟩:=vr t;have ph:(canon pss).length<=1000:=ω
  have aQ:=Y.length;refine⟨zd (by simp),fun o J=>?_⟩;have O:H o=none:=X.free J;have e:j≠o:=zj M J;have kY:∀p∈canon pss,p.length<=5:=fun p hp=>by
   obtain⟨q,hq,hx⟩:=List.mem_flatMap.mp (iZ.mp hp);exact(zL.mp (u_ (u q hq) hx)).2.1
  refine⟨_,rfl,j,rfl,⟨_,SqL.of (by rw[zi e];exact M)⟩,f_ (K:=K) (a:=j) (xs:=ks.map V.ref) (fun i σ H2=>∃(v:Option V)(bs:List Addr),σ=[some (.ref l),some (.ref j),some (.ref o),v]/\Same H H2/\H2 j=some (.lst (ks.map V.ref))/\Tps H2 ks (canon pss)/\H2 o=some (.lst (bs.map V.ref))/\Tps H2 bs (((canon pss).take i).filter (gJ (canon pss))))
   ⟨none,[],rfl,X.then O,by rw[zi e];exact M,(Same.new J).tps Y,am,.nil⟩ (fun i σ H2 _ ⟨_,_,_,_,h,_⟩=>SqL.of h) ?_ ?_⟩
  ·rintro i x σ H2 hx ⟨v,bs,rfl,N,y,G,d,g⟩
   obtain⟨a,ea,rfl⟩:=dR hx;obtain⟨p,ep,hp⟩:=G.get ea;have hi:i<(canon pss).length:=(List.getElem?_eq_some_iff.mp ep).1;refine⟨_,rfl,j,rfl,⟨_,SqL.of y⟩,fun D hD=>zA (GL (SqL.of y) G hp ω (kY p (Az ep)) hD fun H3 cs c ah W=>⟨D,_,rfl,.inl (SqL.of ah),rfl,_,rfl,?_⟩)⟩;rw[Ab];have km:bs.length<=i:=by
    rw[g.length];exact AA (List.length_filter_le _ _) (by rw[AI];omega)
   have Z:=N.trans c
   by_cases I:cs.length=0
   ·have S:gJ (canon pss) p=true:=by unfold gJ;rw[<-W];exact decide_eq_true I
    rw[I];refine be ⟨_,rfl,.inl ⟨rfl,_,SqL.of (c _ _ d)⟩,_,rfl,o,_,_,rfl,rfl,c _ _ d,fA (by rw[Ab];omega),⟨_,bs++[a],rfl,Z.then O,by rw[zi e];exact c _ _ y,Tps.upd (c.tps G) (c _ _ d) (by intro xs z;cases z),by rw[am,Au];rfl,?_⟩⟩;rw[AN ep,Bg,List.filter_cons_of_pos S];exact Tps.upd (Tps.snoc (c.tps g) (c.tp hp)) (c _ _ d) (by intro xs z;cases z)
   ·have S:¬gJ (canon pss) p=true:=by unfold gJ;rw[<-W];exact fun z=>I (of_decide_eq_true z)
    rw[show decide (V.int (cs.length:Int)=V.int 0)=false from decide_eq_false fun z=>I (by injection z with z;omega)];refine bg ⟨_,bs,rfl,Z,c _ _ y,c.tps G,c _ _ d,?_⟩;rw[AN ep,Bg,List.filter_cons_of_neg S,List.filter_nil,List.append_nil];exact c.tps g
  ·rintro σ H2 ⟨v,bs,rfl,N,y,G,d,g⟩
   rw[Ab,aQ,At (Ag _)] at g;exact⟨_,rfl,k o H2 bs N O d g⟩
end
end K8
end
section
namespace L2
open PySem PySem.Spec PyProof.Rows
def Bo:∀{ws:List Str}{a:List Value},Vals (ws.map V.str) a->∃l:List (Str×Tok),strValues l=a/\l.map (fun x=>x.1)=ws
 |[],_,.nil=>⟨[],rfl,rfl⟩
 |x::ws,_,.cons r t=>by
  obtain⟨tk,rfl⟩:=r;obtain⟨l,e1,e2⟩:=Bo t;exact⟨(x,tk)::l,by rw[<-e1];rfl,by rw[<-e2];rfl⟩
section
variable{X:Cx}
def rJoin(K:Ae):V->List V->Hp->VK->Prop:=fun x vs H Q=>∃sep l ws,x=.str sep/\vs=[.ref l]/\SqL K H l (List.map V.str ws)/\JoinOk sep ws=true/\Q (.str (Txt.join sep ws)) H
def fR:qh X "str.join" (rJoin X.K):=by
 intro aa s σ H x vs v us Q I a c h;obtain⟨sep,l,ws,rfl,rfl,d,e,q⟩:=h;obtain⟨t,rfl⟩:=a;obtain⟨u,rfl,f⟩:=c.one;cases f;obtain⟨g,r,p,_⟩:=I.list d;obtain⟨ls,e1,e2⟩:=Bo r;refine SC.join (l:=ls) (by rw[e1];exact p.isList) e2 e fun t' k=>⟨.str _,H,I.tok _,⟨t',rfl⟩,q⟩
end
end L2
end
section
namespace Tx
open PySem PySem.Builtin.Str PyProof.Rows
def Bp{c:Nat}:∀{u w U W:List Nat},c∉u->c∉w->u++c::U=w++c::W->u=w/\U=W
 |[],[],_,_,_,_,h=>⟨rfl,by injection h⟩
 |[],y::w,_,_,_,hw,h=>by
  injection h with h1 _
  exact absurd (h1▸Aj) hw
 |x::u,[],_,_,hu,_,h=>by
  injection h with h1 _
  exact absurd (h1▸Aj) hu
 |x::u,y::w,_,_,hu,hw,h=>by
  injection h with h1 h2
  obtain⟨e1,e2⟩:=Bp (fun m=>hu (An _ m)) (fun m=>hw (An _ m)) h2;exact⟨by rw[h1,e1],e2⟩
def c7{c:Nat}(x y:Str)(r:List Str):(Str.join ⟨#[c]⟩ (x::y::r)).cps.toList=x.cps.toList++c::(Str.join ⟨#[c]⟩ (y::r)).cps.toList:=by
 rw[join_cons_cons,cps_toList_append,cps_toList_append];simp
def Bq{c:Nat}:∀{us ws:List Str},us≠[]->ws≠[]->(∀t∈us,c∉t.cps.toList)->(∀t∈ws,c∉t.cps.toList)->(Str.join ⟨#[c]⟩ us).cps.toList=(Str.join ⟨#[c]⟩ ws).cps.toList->us=ws
 |[],_,h,_,_,_,_=>absurd rfl h
 |_,[],_,h,_,_,_=>absurd rfl h
 |[u],[w],_,_,_,_,h=>by
  rw[join_one,join_one] at h;have:u=w:=Str.ext' (Array.toList_inj.mp h);rw[this]
 |[u],w::w2::r,_,_,hu,_,h=>by
  rw[join_one,c7] at h;exact absurd (h▸AB _ Aj) (hu u Aj)
 |u::u2::r,[w],_,_,_,hw,h=>by
  rw[join_one,c7] at h;exact absurd (h.symm▸AB _ Aj) (hw w Aj)
 |u::u2::r,w::w2::q,_,_,hu,hw,h=>by
  rw[c7,c7] at h;obtain⟨e1,e2⟩:=Bp (hu u Aj) (hw w Aj) h;have e3:=Bq (List.cons_ne_nil _ _) (List.cons_ne_nil _ _) (fun t m=>hu t (An _ m)) (fun t m=>hw t (An _ m)) e2;have a:u=w:=Str.ext' (Array.toList_inj.mp e1);rw[e3,a]
def i_(x y:Str):Aw x y≠[]:=by
 unfold Aw;split
 ·simp
 ·split
  ·simp
  ·rw[StrLaws.partsBetween_eq]
   obtain⟨p,r,e⟩:=StrLaws.partsFrom_ne x y.length 0 (occurrences x y 0 x.length (x.length+1));rw[e];simp
def Br{c:Nat}{ws:List Str}(a:ws≠[])(h:∀t∈ws,c∉t.cps.toList):Aw (Txt.join ⟨#[c]⟩ ws) ⟨#[c]⟩=ws:=by
 rw[show Txt.join ⟨#[c]⟩ ws=Str.join ⟨#[c]⟩ ws from StrLaws.glued_eq_join _ _];refine Bq (i_ _ _) a (StrLaws.split_free _ _) h ?_;rw[StrLaws.join_split]
abbrev fig(i:Int):Str:=Str.ofString (toString i)
def GN:∀i:Nat,i<100->intText? (fig i)=some (i:Int)/\1<=(fig i).length/\(fig i).length<=2/\((fig i).cps.toList.all fun c=>decide (48<=c/\c<=57))=true/\((fig i).length<=1\/(fig i).cps[0]?≠some 48):=δ
end Tx
end
section
namespace L2
open PySem PySem.Spec PyProof.Rows
section
variable{X:Cx}
def vJ:V->Option Int->Option Int->Hp->VK->Prop:=fun x lo hi H Q=>∃z,x=.str z/\z.length<=sizeLine/\Q (.str (Txt.slice z lo hi)) H
def jN:ky X vJ:=by
 intro aa s σ H x v f g lo hi o Q I c hs d e h;obtain⟨z,rfl,a,q⟩:=h;obtain⟨t,rfl⟩:=c;refine⟨"str",_,F.slot_str_getitem.lookup,typeIs_str _ _ _,?_⟩;cases d<;>cases e
 ·exact wpAny_getItem_str_slice (l:=none) (u:=none) (st:=none) hs rfl (post_val_or_str ⟨AA (Txt.slice_le z _ _) a,fun t' k=>⟨.str (Txt.slice z none none),H,I.tok _,⟨t',rfl⟩,q⟩⟩)
 ·rename_i i t
  exact wpAny_getItem_str_slice (l:=none) (u:=some (i,t)) (st:=none) hs rfl (post_val_or_str ⟨AA (Txt.slice_le z _ _) a,fun t' k=>⟨.str (Txt.slice z none (some i)),H,I.tok _,⟨t',rfl⟩,q⟩⟩)
 ·rename_i i t
  exact wpAny_getItem_str_slice (l:=some (i,t)) (u:=none) (st:=none) hs rfl (post_val_or_str ⟨AA (Txt.slice_le z _ _) a,fun t' k=>⟨.str (Txt.slice z (some i) none),H,I.tok _,⟨t',rfl⟩,q⟩⟩)
 ·rename_i i t j t2
  exact wpAny_getItem_str_slice (l:=some (i,t)) (u:=some (j,t2)) (st:=none) hs rfl (post_val_or_str ⟨AA (Txt.slice_le z _ _) a,fun t' k=>⟨.str (Txt.slice z (some i) (some j)),H,I.tok _,⟨t',rfl⟩,q⟩⟩)
end
end L2
end
section
namespace L2
open PySem PySem.Spec PyProof.Rows
section
variable{X:Cx}
def Bs{aa:Ψ}{σ:St}{H:Hp}{s:Shared}{l:Addr}{ns:List Int}(I:Inv X aa σ H s)(d:SqL X.K H l (ns.map V.int)):∃a,Reads s.heap (.ref l) (.list (ns.map A5)) a:=by
 obtain⟨e,r,p,_⟩:=I.list d;obtain⟨o,c,hc,n,hd⟩:=p.isList;exact⟨_,.list c hc hd ((PySem.W.ke_carried (intsAre_of r)).reads s.heap)⟩
def Bu(ns:List Int):SeqAt.shaped (.list (ns.map A5))=true:=by
 simp[SeqAt.shaped,PyData.canLay0,PySem.W.ke_canLayAll0,PyData.depth,PySem.W.ke_depthAll]
def Bv(ns:List Int):(Shape.list .int).has (.list (ns.map A5))=true:=by simp[Shape.has]
end
end L2
end
section
namespace Tx
open PySem PySem.Builtin.Str PyProof.Rows K1
def Bw{n:Nat}(h:n<=100000):n<=sizeLine:=by rw[sizeLine_eq];omega
def Bx{b:Nat}:∀{ws:List Str},(∀t∈ws,t.length<=b)->(ws.map (·.length)).sum<=ws.length*b
 |[],_=>by simp
 |x::r,h=>by
  have a:=Bx (ws:=r) fun t m=>h t (An _ m);have h1:=h x Aj;simp only[AT,List.sum_cons,Ap,Nat.succ_mul];omega
def Bz{sep:Str}{ws:List Str}{b n:Nat}(hs:sep.length=1)(h:∀t∈ws,t.length<=b)(a:ws.length<=n)(c:n*(b+1)<=100000):JoinOk sep ws=true/\(Txt.join sep ws).length<=n*(b+1):=by
 have h1:=Bx h;have h2:ws.length*(b+1)<=n*(b+1):=Nat.mul_le_mul_right _ a;rw[Nat.mul_add,Nat.mul_one] at h2;constructor
 ·unfold JoinOk tooLong
  rw[StrLaws.joinTotal,hs,Nat.mul_one];have:(ws.map (·.length)).sum+ws.length<=sizeLine:=Bw ω;simp only[Bool.not_eq_true',decide_eq_false_iff_not];omega
 ·rw[show Txt.join sep ws=Str.join sep ws from StrLaws.glued_eq_join _ _]
  have:=StrLaws.join_length_le sep ws;rw[hs] at this;omega
abbrev c8(p:List Int):Prop:=∀x∈p,0<=x/\x<=99
def word(p:List Int):Str:=Txt.join "-" (p.map fig)
def text(pss:Ξ):Str:=Txt.join " " (pss.map word)
def lN{i:Int}(h:0<=i/\i<=99):intText? (fig i)=some i/\1<=(fig i).length/\(fig i).length<=2/\(∀c∈(fig i).cps.toList,48<=c/\c<=57)/\((fig i).length<=1\/(fig i).cps[0]?≠some 48):=by
 obtain⟨n,rfl⟩:∃n:Nat,i=n:=⟨i.toNat,ω⟩;obtain⟨a,b,c,d,e⟩:=GN n ω;refine⟨a,b,c,fun x hx=>?_,e⟩;have:=List.all_eq_true.mp d x hx;exact of_decide_eq_true this
def BB{i:Int}(h:0<=i/\i<=99){c:Nat}(hc:c<48):c∉(fig i).cps.toList:=fun m=>by
 have:=((lN h).2.2.2.1 c m).1;omega
def dn:("-":Str)=⟨#[45]⟩:=δ
def blank:(" ":Str)=⟨#[32]⟩:=δ
def lO{p:List Int}(h:c8 p)(a:p.length<=5):JoinOk "-" (p.map fig)=true/\(word p).length<=15:=
 Bz (n:=5) (b:=2) rfl (fun t m=>by
  obtain⟨x,hx,rfl⟩:=List.mem_map.mp m;exact(lN (h x hx)).2.2.1) (by rw[Ab];exact a) ξ
def GO{p:List Int}(h:c8 p)(a:p≠[]):Aw (word p) "-"=p.map fig:=by
 unfold word;rw[dn];refine Br (by simpa using a) fun t m=>?_;obtain⟨x,hx,rfl⟩:=List.mem_map.mp m;exact BB (h x hx) ξ
def mem_word{p:List Int}{c:Nat}(h:c∈(word p).cps.toList):c=45\/∃x∈p,c∈(fig x).cps.toList:=by
 unfold word at h;rw[show Txt.join "-" (p.map fig)=Str.join "-" (p.map fig) from StrLaws.glued_eq_join _ _,mem_join] at h;rcases h with ⟨t,m,hc⟩|⟨_,hc⟩
 ·obtain⟨x,hx,rfl⟩:=List.mem_map.mp m
  exact .inr ⟨x,hx,hc⟩
 ·rw[dn] at hc
  exact .inl (by simpa using hc)
def GP{p:List Int}(h:c8 p):32∉(word p).cps.toList:=fun m=>by
 rcases mem_word m with e|⟨x,hx,hc⟩
 ·cases e
 ·exact BB (h x hx) ξ hc
def BC{pss:Ξ}(h:∀p∈pss,c8 p)(a:pss≠[]):Aw (text pss) " "=pss.map word:=by
 unfold text;rw[blank];refine Br (by simpa using a) fun t m=>?_;obtain⟨x,hx,rfl⟩:=List.mem_map.mp m;exact GP (h x hx)
def vL{pss:Ξ}(h:∀p∈pss,c8 p/\p.length<=5)(a:pss.length<=200):JoinOk " " (pss.map word)=true/\(text pss).length<=3200:=
 Bz (n:=200) (b:=15) rfl (fun t m=>by
  obtain⟨x,hx,rfl⟩:=List.mem_map.mp m;exact(lO (h x hx).1 (h x hx).2).2) (by rw[Ab];exact a) ξ
def acc(p:List Int):Str:=p.foldl (fun w x=>w++"-"++fig x) ""
def raw(p:List Int):List Nat:=p.flatMap fun x=>45::(fig x).cps.toList
end Tx
end
section
namespace K8
open K1 Tx
open PySem L2 STb
abbrev gK:Stmt:=top 29
abbrev vM:Stmt:=top 33
abbrev oy:Stmt:=top 34
def GQ{pss:Ξ}(hw:bv pss=true):i7 pss:=⟨hw,by have:=(lG hw).2.2.2;rw[<-i4] at this;omega⟩
def BD(K:Ae):Sp:=fun vs H Q _=>∃l as pss,vs=[.ref l]/\SqL K H l (as.map V.ref)/\Tps H as pss/\bv pss=true/\∀D H2 bs,Same H H2->H D=none->H2 D=some (.lst (bs.map V.ref))->Tps H2 bs (tops (canon pss))->Q (.ref D) H2
section
variable{P:Program}{w:World}{K:Ae}{mg:Str->Option Value}{base:Heap}
def GR:zo ["web"] ["web"] (zf gK):=⟨rfl,rfl,rfl,δ,rfl,δ,δ⟩
def GS{f fp d:Addr}{fd e g:FuncData}(F:Fun K "greatest" "greatest" gK f fd)(Fp:Fun K "pieces" "pieces" oo fp e)(v:Binds K e ["web"] [])(x:mg "pieces"=some (.ref fp))(G:FnOk P w K mg base aT 8 fp e ["web"] (yW K))(Ft:Fun K "greatest_of" "greatest_of" lL d g)(y:Binds K g ["every"] [])(mt:mg "greatest_of"=some (.ref d))(I:FnOk P w K mg base aT 5 d g ["every"] (y_ K)):FnOk P w K mg base aT 9 f fd ["web"] (BD K):=by
 refine F.ok GR (fun vs H Q E h=>?_) (fun cdv A outer s H vs Q E hr h=>?_)
 ·obtain⟨l,as,pss,rfl,_⟩:=h;rfl
 ·obtain⟨l,as,pss,rfl,u,ht,hw,k⟩:=h
  have c:Room 5 _:=hr.mono ξ;obtain⟨_,a,_,j⟩:=lG hw;refine⟨_,zg (zp (zx I c rfl mt Ft.kp y .nil aw (ae (zx G hr rfl x Fp.kp v .nil aw (ae (pv 0) aq)) aq))),?_⟩;refine⟨_,rfl,l,as,pss,rfl,u,ht,GQ hw,fun D H2 bs i J o hb=>⟨D,bs,pss,rfl,SqL.of o,hb,a,(by rw[i4];omega),fun z C cs p q r hc=>k z C cs (i.trans p) (i.free q) r hc⟩⟩
end
def lP:Bh "str"=some (.type "str"):=δ
def vR:∀n:Nat,n<100->n.log2<1920:=δ
abbrev ja:TE:=gb (fun xs H Q=>∃i:Int,xs=[.int i]/\i.natAbs.log2<1920/\Q (.str (toString i)) H) (zB (aY 0) bJ)
section
variable{P:Program}{w:World}{K:Ae}{mg:Str->Option Value}{base:Heap}
def BE{H2:Hp}{a D:Addr}{ps:List Int}{Q:VK}(i:Tp H2 a ps)(l:ps.length<=5)(hp:c8 ps)(g:H2 D=none)(k:∀c,Same H2 c->c D=some (.lst ((ps.map fig).map V.str))->Q (.ref D) c):cw (gm K a) (cm 0) bN ja [none] H2 D Q:=by
 refine rN (xs:=ps.map V.int) (fun j σ ys c=>∃v:Option V,σ=[v]/\Same H2 c/\c D=some (.lst ys)/\ys=((ps.map fig).take j).map V.str) ?_ ?_ ?_ ?_
 ·exact⟨none,rfl,Same.new g,am,rfl⟩
 ·rintro j σ ys c ⟨v,rfl,d,f,rfl⟩
  exact SqT.of (d.tp i)
 ·rintro j σ ys c x hx h hy ⟨v,rfl,d,f,rfl⟩
  obtain⟨q,eq,rfl⟩:=iV hx;have hq:=hp q (Az eq);have e:(ps.map fig)[j]?=some (fig q):=by rw[Ar,eq];rfl
  refine cb ?_;exact⟨_,rfl,q,rfl,vR _ ω,bO (by rw[Ab];exact zd ω) h hy f ⟨_,rfl,d.then g,am,by rw[AN e,Au];rfl⟩⟩
 ·rintro σ ys c ⟨v,rfl,d,f,rfl⟩
  rw[At (by simp)] at f;exact k c d f
def BF:Sp:=fun vs H Q _=>∃a ps,vs=[.ref a]/\Tp H a ps/\ps.length<=5/\c8 ps/\∀H',Same H H'->Q (.str (word ps)) H'
def GT:zo ["piece"] ["piece"] (zf oy):=⟨rfl,rfl,rfl,δ,rfl,δ,δ⟩
def GU{f:Addr}{fd:FuncData}(F:Fun K "shown_piece" "shown_piece" oy f fd)(ys:mg "str"=none):FnOk P w K mg base aT 1 f fd ["piece"] BF:=by
 refine F.ok GT (fun vs H Q E h=>?_) (fun cdv A outer s H vs Q E hr h=>?_)
 ·obtain⟨a,ps,rfl,_⟩:=h;rfl
 ·obtain⟨a,ps,rfl,d,e,hp,k⟩:=h
  refine⟨_,zg (zp (zW AG PySem.F.slot_str_join PySem.F.type_str_join fR pe_str (ae (zz ["piece"] ["point"] [none] (jk (pv 0)) (fun c C s₀ H₀ ex=>zn (i:=0) (cz ["point"]) rfl (Or.inl rfl)) (fun c C s₀ H₀ ex=>zG)
   (fun c C s₀ H₀ ex=>zw kw rfl ys lP (ae (pv 0) aq)) (hfr:=bP δ)) aq))),?_⟩
  exact⟨rfl,_,rfl,a,rfl,⟨_,SqT.of d⟩,fun D g=>zA (BE d e hp g fun o j l=>⟨_,D,_,rfl,rfl,SqL.of l,(lO hp e).1,k o j⟩)⟩
def BG{H2:Hp}{L D:Addr}{as:List Addr}{e:Ξ}{Q:VK}{te:TE}(s:∀(a:Addr)(ps:List Int)(H:Hp)(R:VK),Tp H a ps->ps.length<=5->c8 ps->(∀H',Same H H'->R (.str (word ps)) H')->te [some (.ref a)] H R)(u:SqL K H2 L (as.map V.ref))(ht:Tps H2 as e)(hk:∀p∈e,c8 p/\p.length<=5)(w:e.length<=1000)(h:H2 D=none)(k:∀c,Same H2 c->c D=some (.lst ((e.map word).map V.str))->Q (.ref D) c):cw (du K L) (cm 0) bN te [none] H2 D Q:=by
 have q:=ht.length;refine zR (xs:=as.map V.ref) (fun j σ ys c=>∃v:Option V,σ=[v]/\Same H2 c/\c D=some (.lst ys)/\ys=((e.take j).map word).map V.str) ?_ ?_ ?_ ?_
 ·exact⟨none,rfl,Same.new h,am,rfl⟩
 ·rintro j σ ys c ⟨v,rfl,d,f,rfl⟩
  exact d.seq u
 ·rintro j σ ys c x hx i hy ⟨v,rfl,d,f,rfl⟩
  obtain⟨o,l,rfl⟩:=dR hx;obtain⟨p,ep,hp⟩:=ht.get l;have r:(as.map V.ref).length<=sizeLine:=by rw[Ab];exact zd ω
  obtain⟨h1,h2⟩:=hk p (Az ep);refine cb ?_;refine s o p c _ (d.tp hp) h2 h1 fun y g=>bO r i hy (g _ _ f) ⟨_,rfl,(d.trans g).then h,am,?_⟩;rw[AN ep,Au,Au]
  rfl
 ·rintro σ ys c ⟨v,rfl,d,f,rfl⟩
  rw[Ab,q,At (Ag _)] at f;exact k c d f
def BH{pss:Ξ}(hw:bv pss=true):(∀p∈tops (canon pss),c8 p/\p.length<=5)/\(tops (canon pss)).length<=200/\∀p∈tops (canon pss),c8 p/\p≠[]:=by
 obtain⟨e,a,f,d⟩:=lG hw;have hq:∀p∈tops (canon pss),zZ p=true:=fun p hp=>a p (vf hp);refine⟨fun p hp=>?_,?_,fun p hp=>?_⟩
 ·obtain⟨_,h2,c,_⟩:=zL.mp (hq p hp)
  exact⟨c,h2⟩
 ·exact AA (yS pss) ω
 ·obtain⟨h1,h2,c,_⟩:=zL.mp (hq p hp)
  exact⟨c,h1⟩
def BI(K:Ae):Sp:=fun vs H Q _=>∃l as pss,vs=[.ref l]/\SqL K H l (as.map V.ref)/\Tps H as pss/\bv pss=true/\∀H',Same H H'->Q (.str (text (tops (canon pss)))) H'
def GV:zo ["web"] ["web"] (zf vM):=⟨rfl,rfl,rfl,δ,rfl,δ,δ⟩
def GW{f d fp:Addr}{fd e g:FuncData}(F:Fun K "shown" "shown" vM f fd)(Fg:Fun K "greatest" "greatest" gK d e)(J:Binds K e ["web"] [])(L:mg "greatest"=some (.ref d))(S:FnOk P w K mg base aT 9 d e ["web"] (BD K))(Fp:Fun K "shown_piece" "shown_piece" oy fp g)(M:Binds K g ["piece"] [])(N:mg "shown_piece"=some (.ref fp))(T:FnOk P w K mg base aT 1 fp g ["piece"] BF):FnOk P w K mg base aT 10 f fd ["web"] (BI K):=by
 refine F.ok GV (fun vs H Q E h=>?_) (fun cdv A outer s H vs Q E hr h=>?_)
 ·obtain⟨l,as,pss,rfl,_⟩:=h;rfl
 ·obtain⟨l,as,pss,rfl,z,ht,hw,k⟩:=h
  have c:Room 1 _:=hr.mono ξ;obtain⟨p,I,W⟩:=BH hw;refine⟨_,zg (zp (zW AG PySem.F.slot_str_join PySem.F.type_str_join fR pe_str (ae (zz ["web"] ["piece"] [none] (zF (zx S hr rfl L Fg.kp J .nil aw (ae (pv 0) aq))) (fun j C s₀ H₀ ex=>zn (i:=0) (cz ["piece"]) rfl (Or.inl rfl)) (fun j C s₀ H₀ ex=>zG)
   (fun j C s₀ H₀ ex=>zx T c rfl N Fp.kp M .nil aw (ae (pv 0) aq)) (hfr:=bP δ)) aq))),?_⟩
  refine⟨rfl,_,rfl,l,as,pss,rfl,z,ht,hw,fun G H1 bs q U o hb=>⟨G,rfl,⟨_,SqL.of o⟩,fun D r=>zA (BG (fun a ps H R h1 h2 u v=>⟨_,rfl,a,ps,rfl,h1,h2,u,v⟩) (SqL.of o) hb p ω r fun O x y=>⟨_,D,_,rfl,rfl,SqL.of y,(vL p I).1,k O (q.trans x)⟩)⟩⟩
end
end K8
end
section
namespace L2
open PySem PySem.Spec PyProof.Rows
def BJ(f:Array Value->Array Value)(o:Obj):(o.mapFields f).dict=o.dict:=by unfold Obj.mapFields;split<;>rfl
def Xc(h:Heap)(x:Addr)(C:Value)(T:Option Addr):Prop:=
 ∃c vs,h.get? x=some c/\c.cls=C/\c.dict=none/\c.data=.fields vs/\1<vs.size/\((T=none/\vs[1]?=some .none)\/∃a d e,T=some a/\vs[1]?=some (.ref a)/\a≠x/\h.get? a=some d/\d.data=.fields e/\e[3]?=some .none)
def gj(fr:List Addr)(x:Addr)(T:Option Addr)(h h':Heap):Prop:=
 (∀b o,h.get? b=some o->b≠x->T≠some b->b∉fr->h'.get? b=some o)/\(∀b o,h.get? b=some o->b∈fr->∃a,h'.get? b=some {o with slots:=a})/\h.objs.size<=h'.objs.size
section
variable{M:Model}{A:Around}{E:Ω}{s:Shared}
def lR{base:Heap}{env:Env}{outer:List Env}{L x:Addr}{j:Obj}{vs:Array Value}{head:Value}{O:Bool}{Q:Unit->Shared->Prop}(hfr:A.frames=some (env::outer))(F:s.heap.FunFrames base (env::outer))(hf:env.frame=some L)(he:s.heap.get? x=some j)(P:j.dict=none)(hd:j.data=.fields vs)(hsz:1<vs.size)(h:∀h' T',s⁻¹<=T'->Xc h' x j.cls (some T')->gj ((env::outer).filterMap (·.frame)) x none s.heap h'->Q () {s with heap:=h'}):wpAny M A (do let a <-frameOf env;let d <-entryPlaceOf L O;let b <-EntryCells.newEntry head a .none (rawInt L) .none d;setField (.ref x) 1 b) (fun _ s'=>wpAny M A (setFlight (.ref x) none) Q E s') E s:=by
 have g:x∉(env::outer).filterMap (·.frame):=fun hm=>by
  obtain⟨_,o,p,H⟩:=F.mem hm;rw[he] at p;injection p with p;subst p;exact H vs hd
 refine Aa (wpAny_frameOf_fun hfr F hf fun c l=>?_);refine Aa (wpAny_entryPlaceOf fun d i=>?_);unfold EntryCells.newEntry newFields;refine Aa (AS ?_ (i.sizeOk5 _ _ _ _ _));have y:c.get? x=some j:=(l.2.1 x g).trans he;have z:=Ac (h:=c) {cls:=.type "traceback",dict:=none,data:=.fields ([head,.ref L,.none,rawInt L,.none]++(if d.isEmpty then List.replicate 6 Value.none else d)).toArray} y;refine wpAny_setField z hd hsz ?_;have u:c.objs.size≠x:=Nat.ne_of_gt (Ah y);have v:=Obj.data_mapFields hd (·.setIfInBounds 1 (Value.ref c.objs.size));have C:=Heap.get?_update_self (Obj.mapFields (·.setIfInBounds 1 (Value.ref c.objs.size))) z (Obj.isFreed_of_fields v);have D:=(AM (c.push {cls:=.type "traceback",dict:=none,data:=.fields ([head,.ref L,.none,rawInt L,.none]++(if d.isEmpty then List.replicate 6 Value.none else d)).toArray})
  (Obj.mapFields (·.setIfInBounds 1 (Value.ref c.objs.size))) (Ne.symm u)).trans (Av c rfl)
 unfold setFlight;refine Aa (AR C v (x:=.ref c.objs.size) (by simp[hsz]) ?_);rw[if_pos (show(Value.ref c.objs.size != Value.none)=true from by simp)];have N:c.objs.size=s⁻¹:=l.1;refine wpAny_setField D rfl (by simp only[Am,Aq,Ap,List.length_nil]<;>omega) (h _ c.objs.size ω ?_ ?_)
 ·refine⟨_,_,?_,Obj.cls_mapFields _ _,(BJ _ _).trans P,v,by simpa using hsz,.inr ⟨c.objs.size,_,_,rfl,by simp[hsz],u,Heap.get?_update_self _ D (Obj.isFreed_of_fields (Obj.data_mapFields rfl _)),Obj.data_mapFields rfl _,?_⟩⟩
  ·rw[AM _ _ u];exact C
  ·first|(simp;done)|(rcases i with rfl|⟨_,_,_,_,_,_,_,rfl⟩<;>simp)
 ·have keep:∀b o,b≠x->c.get? b=some o->
    (((c.push {cls:=.type "traceback",dict:=none,data:=.fields ([head,.ref L,.none,rawInt L,.none]++(if d.isEmpty then List.replicate 6 Value.none else d)).toArray}).update x (Obj.mapFields (·.setIfInBounds 1 (Value.ref c.objs.size)))).update c.objs.size
     (Obj.mapFields (·.setIfInBounds 3 ((none:Option Addr).elim Value.none fun f=>rawInt f)))).get? b=some o:=fun b o q hb=>by
   have w:c.objs.size≠b:=Nat.ne_of_gt (Ah hb);rw[AM _ _ w,AM _ _ (Ne.symm q)];exact Ac _ hb
  refine⟨fun b o hb G _ r=>keep b o G ((l.2.1 b r).trans hb),fun b o hb r=>?_,?_⟩
  ·obtain⟨I,J⟩:=l.2.2 b o hb
   exact⟨I,keep b _ (fun e=>g (e▸r)) J⟩
  ·rw[AO,AO,Bi]
   show s⁻¹<=c.objs.size+1;omega
def GX{base:Heap}{env:Env}{outer:List Env}{L x:Addr}{C:Value}{T:Option Addr}{Q:Unit->Shared->Prop}(hfr:A.frames=some (env::outer))(l:s.heap.FunFrames base (env::outer))(hf:env.frame=some L)(he:Xc s.heap x C T)(h:∀h' T',s⁻¹<=T'->Xc h' x C (some T')->gj ((env::outer).filterMap (·.frame)) x T s.heap h'->Q () {s with heap:=h'}):wpAny M A (leaving env (.ref x)) Q E s:=by
 obtain⟨D,vs,he,rfl,p,hd,hsz,h1⟩:=he;unfold leaving noteFrame;simp only[hf];rcases h1 with ⟨rfl,h1⟩|⟨a,F,y,rfl,h1,z,i,j,r⟩
 ·refine Aa (Aa (AR he hd h1 ?_))
  rw[if_neg ξ];exact lR hfr l hf he p hd hsz h
 ·refine Aa (Aa (AR he hd h1 ?_))
  rw[if_pos (show(Value.ref a != Value.none)=true from by simp)];refine Aa (AR i j r ?_);rw[if_neg (show ¬((Value.none==rawInt L)=true) from by simp[rawInt])];refine Aa (wpAny_setField i j (Array.getElem?_eq_some_iff.mp r).1 ?_);have f:∀b,b≠a->(s.heap.update a (Obj.mapFields (·.setIfInBounds 3 Value.none))).get? b=s.heap.get? b:=fun b hb=>AM _ _ (Ne.symm hb);have v:∀b o,s.heap.get? b=some o->(∀vs,o.data≠.fields vs)->b≠a:=fun b o hb c q=>by
   rw[q,i] at hb;injection hb with hb;subst hb;exact c y j
  refine lR hfr (l.of_keeps fun b o hb c=>⟨o,(f b (v b o hb c)).trans hb,rfl⟩) hf ((f x (Ne.symm z)).trans he) p hd hsz fun h' T' hT' hx hk=>h h' T' (by rw[AO] at hT';exact hT') hx ?_;obtain⟨k1,k2,k3⟩:=hk;refine⟨fun b o hb w g d=>k1 b o ((f b fun e=>g (by rw[e])).trans hb) w (by simp) d,fun b o hb d=>?_,by rw[AO] at k3;exact k3⟩;obtain⟨_,o',u,c⟩:=l.mem d;rw[hb] at u;cases u;exact k2 b o ((f b (v b o hb c)).trans hb) d
end
end L2
end
section
namespace L2
open PySem PySem.Spec PyProof.Rows
def cZ(P:Program)(w:World):ei:=fun outer H s E e s'=>∃(x C:Addr)(T:Option Addr)(H':Hp),e=.ref x/\s'.os=s.os/\AllBare s'.gens/\Un (frs outer) [] H H' s.heap s'.heap/\HOk P w H' s'.heap/\
 H' x=none/\s.heap.get? x=none/\(∀a,T=some a->H' a=none/\s.heap.get? a=none)/\Xc s'.heap x (.ref C) T/\E e (some C) H'
def vU{P:Program}{w:World}{H:Hp}{h h':Heap}{fr:List Addr}{x:Addr}{T:Option Addr}(f:HOk P w H h)(k:gj fr x T h h')(hx:H x=none)(g:∀a,T=some a->H a=none)(hf:∀b∈fr,H b=none):HOk P w H h':=by
 intro b u e;refine(f b u e).stay (fun c v hc q=>k.1 c v q ?_ ?_ ?_) (fun _ q=>q) fun _ _ q=>q
 all_goals
  have d:H c≠none:=by
   rcases hc with z|z
   ·rw[z,e];simp
   ·rw[z];simp
 ·exact fun z=>d (z▸hx)
 ·exact fun z=>d (g c z)
 ·exact fun z=>d (hf c z)
def jP{P:Program}{w:World}{K:Ae}{mg:Str->Option Value}{base:Heap}{N:List Str}{g:Str}{scope:Scope}{f:Addr}{h:Value}{A:Around}{outer:List Env}{s:Shared}{H:Hp}{E:XK}{aa:Ψ}{σ:St}{H':Hp}{s':Shared}{x C:Addr}{T:Option Addr}(I:Inv (bh (cZ P w) P w K mg base N g scope f h A outer s H E) aa σ H' s')(hx:Xc s'.heap x (.ref C) T)(p:H' x=none)(r:s.heap.get? x=none)(u:∀a,T=some a->H' a=none/\s.heap.get? a=none)(J:E (.ref x) (some C) H'):(bh (cZ P w) P w K mg base N g scope f h A outer s H E).xe (.ref x) s':=by
 show wpAny (model P w) (A.deeper (envOfC g scope s⁻¹ f h)) (leaving (envOfC g scope s⁻¹ f h) (.ref x)) _ _ s';refine GX I.ok.frames I.stack rfl hx fun h' T' hT' v hk=>?_;have hfr:=I.stkFree;have hsz:s⁻¹<=s'⁻¹:=I.sz;have G:∀b o,s.heap.get? b=some o->b≠x/\T≠some b/\b≠s⁻¹:=fun b o e=>by
  have hb:=Ah e;exact⟨fun z=>(by rw[z,r] at e;cases e),fun z=>(by rw[(u b z).2] at e;cases e),Al hb⟩
 have l:∀b o o',s.heap.get? b=some o->s'.heap.get? b=some o'->b∉frs outer->h'.get? b=some o':=fun b o o' e c hb=>by
  obtain⟨n1,n2,y⟩:=G b o e;refine hk.1 b o' c n1 n2 fun hm=>?_;have D:b∈s⁻¹::frs outer:=hm;rcases List.mem_cons.mp D with z|z
  ·exact y z
  ·exact hb z
 have d:∀b o',s'.heap.get? b=some o'->b∈frs outer->∃j,h'.get? b=some {o' with slots:=j}:=fun b o' c hb=>hk.2.1 b o' c (show b∈s⁻¹::frs outer from An _ hb);have i:∀b:Addr,b∉(bh (cZ P w) P w K mg base N g scope f h A outer s H E).ex:=fun b z=>absurd (show b∈([]:List Addr) from z) (by simp);refine⟨x,C,some T',H',rfl,I.os,I.bare,⟨fun b o q n hb hx=>?_,fun b o q n hb hx=>?_,fun b o q n hx=>I.base.free b o q n (i b),fun b o q hx=>?_,I.base.tups,I.base.frzs,I.base.tbls⟩,vU I.hok hk p (fun a e=>(u a e).1) hfr,p,r,fun a e=>?_,v,J⟩
 ·exact l b o o q (I.base.keep b o q n hb (i b)) hb
 ·obtain⟨j,e⟩:=I.base.slot b o q n hb (i b)
  obtain⟨F,c⟩:=d b _ e hb;exact⟨F,c⟩
 ·obtain⟨o',e⟩:=I.base.there b o q (i b)
  by_cases hb:b∈frs outer
  ·obtain⟨j,c⟩:=d b o' e hb
   exact⟨_,c⟩
  ·exact⟨o',l b o o' q e hb⟩
 ·cases e
  refine⟨I.hok.fresh hT',?_⟩;cases q:s.heap.get? T' with
  |none=>rfl
  |some o=>exact absurd (Ah q) (Nat.not_lt.mpr (AA hsz hT'))
def lT{P:Program}{w:World}{K:Ae}{mg:Str->Option Value}{base:Heap}{N:List Str}{h:Str}{scope:Scope}{f:Addr}{i:Value}{A:Around}{outer:List Env}{s:Shared}{H:Hp}{E:XK}:b8 (cZ P w) (bh (cZ P w) P w K mg base N h scope f i A outer s H E) E:=by
 rintro aa σ H1 j e l I ⟨x,C,T,H',rfl,os,c,un,d,p,r,g,hx,u⟩;have v:Inv (bh (cZ P w) P w K mg base N h scope f i A outer s H E) aa σ H' l:=I.call' (ch:=[]) os un d c (fun b z=>absurd z (by simp));have back:∀b,j.heap.get? b=none->s.heap.get? b=none:=fun b hb=>by
  cases q:s.heap.get? b with
  |none=>rfl
  |some o=>
   obtain⟨o',e⟩:=I.base.there b o q (fun z=>absurd (show b∈([]:List Addr) from z) (by simp));rw[hb] at e;cases e
 exact jP v hx p (back x r) (fun a e=>⟨(g a e).1,back a (g a e).2⟩) u
def Fun.ok1{P:Program}{w:World}{K:Ae}{mg:Str->Option Value}{base:Heap}{x c:Str}{st:Stmt}{f:Addr}{fd:FuncData}{N ps:List Str}{k:Nat}{sp:Sp}(F:Fun K x c st f fd)(S:zo N ps (zf st))(len:∀vs H Q E,sp vs H Q E->vs.length=ps.length)(e:∀(cdv:Value)(A:Around)(outer:List Env)(s:Shared)(H:Hp)(vs:List V)(Q:VK)(E:XK),Room k (A.deeper (envOfC c (zf st) s⁻¹ f cdv))->sp vs H Q E->
   ∃t,PSs (bh (cZ P w) P w K mg base N c (zf st) f cdv A outer s H E) (zM st) t/\t {nx:=fun _ H'=>Q .non H',rt:=Q} (start N vs) H):FnOk P w K mg base (cZ P w) (k+1) f fd ps sp:=by
 obtain⟨g,h,kV,i,j,l,cdv,ct,o,rfl,lk,d⟩:=F.ex;exact wR lk d S len fun A outer s H vs Q E hr a=>e cdv A outer s H vs Q E hr a
def GY{P:Program}{w:World}{H:Hp}{h:Heap}{a:Addr}{o:HO}(x:zQ P w H h a o):∃c,h.get? a=some c:=by
 cases o with
 |lst xs=>obtain⟨_,_,_,_,e⟩:=x;exact⟨_,e⟩
 |tup xs=>obtain⟨_,_,_,o,e,_⟩:=x;exact⟨_,e⟩
 |dK kvs=>obtain⟨_,_,_,_,o,_,_,e,_⟩:=x;exact⟨_,e⟩
 |dT kvs=>obtain⟨_,_,_,_,o,_,_,e,_⟩:=x;exact⟨_,e⟩
 |set S n=>obtain⟨o,_,_,_,e,_⟩:=x;exact⟨_,e⟩
 |ins C dx fs=>obtain⟨_,_,_,e,_⟩:=x;exact⟨_,e⟩
 |own y=>exact x
 |xd fs=>obtain⟨_,⟨_,_,_,e,_⟩,_⟩:=x;exact⟨_,e⟩
 |met f y=>exact⟨_,x⟩
 |rng lo hi=>obtain⟨_,_,_,e⟩:=x;exact⟨_,e⟩
 |frz c u=>exact⟨_,x.1⟩
 |tbl ps=>exact⟨_,x⟩
 |ext φ=>exact x.2.1
def vY{K:Ae}{h:Heap}{C:Addr}{d:List Value}{p:String}(X:K.In h)(q:PySem.W.excIn K C d p=true):∃bm N nm c bs hdct sn sub ab col dd k0 k1 k2 k3 k5,∃g:Str->Option Value,g "__init__"=none/\(∀T,d.contains (.type T)=true->bm.contains (.type T)=true)/\∀h':Heap,K.In h'->h'.get? C=some (excClassObj nm c C N bs bm hdct sn sub ab col dd k0 k1 k2 k3 k5 p)/\h'.Ns N g/\OwnTail h' d bm:=by
 unfold PySem.W.excIn at q;split at q
 ·rename_i dd cd sl ho
  split at q
  ·rename_i C' bm k0 k1 k2 k3 n k5 hm hs
   simp only[AE,beq_iff_eq,Bool.not_eq_true'] at q;obtain⟨⟨⟨⟨⟨rfl,rfl⟩,i⟩,ht⟩,a⟩,j⟩:=q;obtain⟨nm,bs,mro,ns,c,hd,sn,sub,ab,col,v⟩:=cd;dsimp only at hm i a j;subst hm i;have s:sl=#[k0,k1,k2,k3,some (.builtin n),k5]:=by
    obtain⟨l⟩:=sl;simp only at hs;rw[hs]
   subst s;refine⟨bm,ns,nm,c,bs,hd,sn,sub,ab,col,dd,k0,k1,k2,k3,k5,h.nsMap ns,PySem.W.nsMap_none_of_in X a j,fun T r=>(PySem.W.tail_of_in X ht).hasType r,fun h' f=>⟨f _ _ ho,?_,PySem.W.tail_of_in f ht⟩⟩;have u:h.Ns ns (h.nsMap ns):=.of_isNs (PySem.W.isNs_of_in X a);unfold PySem.W.nsOkIn at a;split at a
   ·rename_i c1 d1 ck kK sl1 dm
    exact u.at' fun o e=>by
     rw[X _ _ dm] at e;rw[<-e];exact f _ _ dm
   ·cases a
  ·cases q
 ·cases q
abbrev jb:List Value:=[.type "ValueError",.type "Exception",.type "BaseException",.type "object"]
section
variable{X:Cx}
def GZ(EX:XK)(C:Addr):TS:=fun _ _ H=>∀x,H x=none->EX (.ref x) (some C) H
def lV{x:Str}{C:Addr}{c:Str}{j:Nat}{O g aK pos:Pos}{EX:XK}(hc:X.calm=true)(P:Gl X x)(hm:X.mg x=some (.ref C))(q:PySem.W.excIn X.K C jb "ValueError.__new__"=true)(Q:∀(aa:Ψ)(σ:St)(H:Hp)(s:Shared)(x:Addr),Inv X aa σ H s->Xc s.heap x (.ref C) none->H x=none->X.s₀.heap.get? x=none->EX (.ref x) (some C) H->X.xe (.ref x) s)(hex:X.ex=[]:=by rfl)(hd:(x==("__debug__":Str))=false:=by decide)(S:(backTo aK (starEach [Expr.Constant (.str c) j g] X.env)).any (·.1)=false:=by rfl):PS X (.Raise (some (.Call (.Name x O) [.Constant (.str c) j g] [] aK)) none pos) (GZ EX C):=by
 intro aa s σ H D I h;obtain⟨bm,N,nm,w,bs,hdct,sn,sub,ab,col,dd,k0,k1,k2,k3,k5,Y,y,A,E⟩:=vY I.kIn q;refine wpAny_Raise_call_subU (C:=C) (nm:=nm) (q:=w) (N:=N) (bs:=bs) (bm:=bm) (hdct:=hdct) (sn:=sn) (sub:=sub) (ab:=ab) (col:=col) (dd:=dd) (k0:=k0) (k1:=k1) (k2:=k2) (k3:=k3) (k5:=k5) PySem.F.excBase_ValueError PySem.F.excBase_ValueError.hasB PySem.F.excBase_ValueError (A _ PySem.F.excBase_ValueError.hasBase) (I.ok.hd hc) S y ?_;refine bd (gP (v:=.ref C) P hm rfl hd aa s σ H (fun v H1=>v=.ref C/\H1=H) I ⟨rfl,rfl⟩) fun f i ⟨v,H1,T,l,e1,e2⟩=>?_;subst e1 e2;cases l;refine⟨rfl,?_⟩;have M:=(ae pe_str aq:PA X [Expr.Constant (.str c) j g] _) aK aa i σ H1 (fun vs H2=>vs=[.str c]/\H2=H1) T ⟨rfl,rfl⟩;refine Calls.evalArgs_plain (bd M fun us d ⟨vs,H2,I2,p,e3,r⟩=>?_);subst e3 r;obtain⟨G,J,L⟩:=E d.heap I2.kIn;refine⟨rfl,?_,G,J,L,fun h' e hm=>?_⟩
 ·rw[<-p.length];show 1<=sizeLine;decide
 obtain⟨t,ht,_,_⟩:=hm.there;have U:Inv X aa σ H2 {d with heap:=h'}:=I2.kept (t':=d.toks) hm.keeps;have he:H2 e=none:=by
  cases z:H2 e with
  |none=>rfl
  |some u=>
   obtain⟨o,a⟩:=GY (I2.hok e u z);rw[hm.new] at a;cases a
 refine Q aa σ H2 _ e U ⟨_,_,ht,rfl,rfl,rfl,(by show 1<6;decide),.inl ⟨rfl,rfl⟩⟩ he ?_ (h e he);cases z:X.s₀.heap.get? e with
 |none=>rfl
 |some o=>
  obtain⟨o',a⟩:=I2.base.there e o z (by rw[hex];simp);rw[hm.new] at a;cases a
end
end L2
end
section
namespace L2
open PySem PySem.Spec PyProof.Rows
section
variable{M:Model}{A:Around}{E:Ω}{s:Shared}
def G0{base:Heap}{env:Env}{outer:List Env}{L x:Addr}{C:Value}{T:Option Addr}{Q:Unit->Shared->Prop}(hfr:A.frames=some (env::outer))(l:s.heap.FunFrames base (env::outer))(hf:env.frame=some L)(he:Xc s.heap x C T)(h:∀h' T',s⁻¹<=T'->Xc h' x C (some T')->gj ((env::outer).filterMap (·.frame)) x T s.heap h'->Q () {s with heap:=h'}):wpAny M A (noteFrame (.ref x) env) (fun _ w=>wpAny M A (setFlight (.ref x) none) Q E w) E s:=by
 obtain⟨F,vs,he,rfl,p,hd,hsz,h1⟩:=he;unfold noteFrame;simp only[hf];rcases h1 with ⟨rfl,h1⟩|⟨a,G,z,rfl,h1,D,i,j,r⟩
 ·refine Aa (AR he hd h1 ?_)
  rw[if_neg ξ];exact lR hfr l hf he p hd hsz h
 ·refine Aa (AR he hd h1 ?_)
  rw[if_pos (show(Value.ref a != Value.none)=true from by simp)];refine Aa (AR i j r ?_);rw[if_neg (show ¬((Value.none==rawInt L)=true) from by simp[rawInt])];refine Aa (wpAny_setField i j (Array.getElem?_eq_some_iff.mp r).1 ?_);have f:∀b,b≠a->(s.heap.update a (Obj.mapFields (·.setIfInBounds 3 Value.none))).get? b=s.heap.get? b:=fun b hb=>AM _ _ (Ne.symm hb);have v:∀b o,s.heap.get? b=some o->(∀vs,o.data≠.fields vs)->b≠a:=fun b o hb c q=>by
   rw[q,i] at hb;injection hb with hb;subst hb;exact c z j
  refine lR hfr (l.of_keeps fun b o hb c=>⟨o,(f b (v b o hb c)).trans hb,rfl⟩) hf ((f x (Ne.symm D)).trans he) p hd hsz fun h' T' hT' hx hk=>h h' T' (by rw[AO] at hT';exact hT') hx ?_;obtain⟨k1,k2,k3⟩:=hk;refine⟨fun b o hb y g d=>k1 b o ((f b fun e=>g (by rw[e])).trans hb) y (by simp) d,fun b o hb d=>?_,by rw[AO] at k3;exact k3⟩;obtain⟨_,o',u,c⟩:=l.mem d;rw[hb] at u;cases u;exact k2 b o ((f b (v b o hb c)).trans hb) d
def G1{x:Addr}{C:Value}{T:Addr}{Q:Unit->Shared->Prop}(he:Xc s.heap x C (some T))(h:∀h',Xc h' x C (some T)->gj [] x (some T) s.heap h'->Q () {s with heap:=h'}):wpAny M A (setFlight (.ref x) none) Q E s:=by
 obtain⟨j,vs,he,rfl,l,hd,hsz,h1⟩:=he;rcases h1 with ⟨z,_⟩|⟨a,r,u,z,h1,g,i,f,p⟩
 ·cases z
 cases z;unfold setFlight;refine Aa (AR he hd h1 ?_);rw[if_pos (show(Value.ref T != Value.none)=true from by simp)];have c:=(Array.getElem?_eq_some_iff.mp p).1;refine wpAny_setField i f c (h _ ?_ ?_)
 ·refine⟨j,vs,?_,rfl,l,hd,hsz,.inr ⟨T,_,_,rfl,h1,g,Heap.get?_update_self _ i (Obj.isFreed_of_fields (Obj.data_mapFields f _)),Obj.data_mapFields f _,?_⟩⟩
  ·rw[AM _ _ g];exact he
  ·simp[c]
 ·refine⟨fun b o hb q d _=>?_,fun b o _ z=>absurd z (by simp),by rw[AO];exact Ag _⟩
  rw[AM _ _ (fun e=>d (by rw[e]))];exact hb
def G2{C S:Addr}{nm q N bs bm hdct sn sub ab col dd k0 k1 k2 k3 k5 bH}{hV q' N' hJ fe b0 ip dw gR dv d0 gS il io gZ gW cy}{h:Heap}{g:Array GenState}{d:Drawn}{t:Nat}{os:OsState}{e:Addr}{c:Obj}{Q:Bool->Shared->Prop}(j:h.get? C=some (excClassObj nm q C N bs bm hdct sn sub ab col dd k0 k1 k2 k3 k5 bH))(i:h.get? S=some (excClassObj hV q' S N' hJ fe b0 ip dw gR dv d0 gS il io gZ gW cy))(he:h.get? e=some c)(l:c.cls=.ref C)(o:fe.contains (.type "BaseException")=true)(p:(Value.ref C::bm).contains (.ref S)=true)(hq:Q true ⟨h,g,d,t,os⟩):wpAny M A (excMatches (.ref e) (.ref S)) Q E ⟨h,g,d,t,os⟩:=by
 have a:(Value.ref S::fe).contains (.type "BaseException")=true:=by rw[List.contains_cons,o,Bool.or_true]
 have f:=tc_notTuple;unfold excMatches
 repeat(first|(with_reducible refine wpAny_loadPart_at he ?_;rw[l])|with_reducible refine wpAny_loadPart_at i ?_|(with_reducible refine wpAny_isSubtype_exc i ?_;rw[a])|(with_reducible refine wpAny_isSubtype_exc j ?_;rw[p])|wp_step)
 exact hq
end
section
variable{X:Cx}{aa:Ψ}{σ:List (Option V)}{H H':Hp}{s:Shared}{h':Heap}
structure Off(X:Cx)(aa:Ψ)(x:Addr):Prop where
 s0:X.s₀.heap.get? x=none
 lo:x≠X.env.locals
 ce:∀y c,X.env.cells.lookup y=some c->c≠x
 pn:∀p∈X.pn++aa,p.1≠x
def Inv.off(I:Inv X aa σ H s)(hex:X.ex=[]){x:Addr}(h:s.heap.get? x=none):Off X aa x:=by
 refine⟨?_,fun e=>?_,fun y c e z=>?_,fun p hp z=>?_⟩
 ·cases q:X.s₀.heap.get? x with
  |none=>rfl
  |some o=>
   obtain⟨o',e⟩:=I.base.there x o q (by rw[hex];simp);rw[h] at e;cases e
 ·obtain⟨m,⟨o,_,_,a,_⟩,_⟩:=I.loc
  rw[<-e,h] at a;cases a
 ·obtain⟨v,o,a,_⟩:=I.cell y c e
  rw[z,h] at a;cases a
 ·have:=(I.pin p hp).1
  rw[z,h] at this;cases this
def Inv.stepN{ch:List Addr}(I:Inv X aa σ H s)(j:∀b∈ch,Off X aa b)(keep:∀b o,b≠X.env.locals->b∉X.fs->b∉ch->s.heap.get? b=some o->H b=none->h'.get? b=some o)(slot:∀b o,b≠X.env.locals->b∈X.fs->b∉ch->s.heap.get? b=some o->H b=none->∃A,h'.get? b=some {o with slots:=A})(free:∀b o,b∉ch->s.heap.get? b=some o->H b=none->H' b=none)(there:∀b o,b∉ch->s.heap.get? b=some o->∃o',h'.get? b=some o')(tups:∀b xs,H b=some (.tup xs)->H' b=some (.tup xs))(frzs:∀b o u,H b=some (.frz o u)->H' b=some (.frz o u))(tbls:∀b ps,H b=some (.tbl ps)->∃more,H' b=some (.tbl (ps++more)))(ns:∀m,s.heap.Ns X.env.locals m->h'.Ns X.env.locals m)(C:HOk X.prog X.w H' h'):Inv X aa σ H' {s with heap:=h'}:=by
 have h:∀b o,X.s₀.heap.get? b=some o->b≠X.env.locals:=fun b o e=>Al (Ay (Ah e) I.ok.above);have y:∀b o,X.s₀.heap.get? b=some o->b∉ch:=fun b o e hb=>by
  rw[(j b hb).s0] at e;cases e
 have a:∀x c,X.env.cells.lookup x=some c->∀v,s.heap.IsCell c v->h'.IsCell c v:=fun x c e v ⟨o,g,hd⟩=>by
  have f:c∉ch:=fun z=>(j c z).ce x c e rfl
  by_cases hc:c∈X.fs
  ·obtain⟨A,q⟩:=slot c o (I.cne x c e) hc f g (I.freeC x c e)
   exact⟨_,q,hd⟩
  ·exact⟨o,keep c o (I.cne x c e) hc f g (I.freeC x c e),hd⟩
 refine⟨I.ok,I.os,I.bare,⟨fun b o e n hb hx=>?_,fun b o e n hb hx=>?_,fun b o e n hx=>?_,fun b o e hx=>?_,fun b xs e=>tups b xs (I.base.tups b xs e),fun b o xs e=>frzs b o xs (I.base.frzs b o xs e),fun b ps e=>?_⟩,?_,fun x c e=>?_,?_,fun x c e=>?_,fun p hp=>?_,C,I.len⟩
 ·exact keep b o (h b o e) hb (y b o e) (I.base.keep b o e n hb hx) (I.base.free b o e n hx)
 ·obtain⟨A,e1⟩:=I.base.slot b o e n hb hx
  obtain⟨E,e2⟩:=slot b _ (h b o e) hb (y b o e) e1 (I.base.free b o e n hx);exact⟨E,e2⟩
 ·obtain⟨o',e1⟩:=I.base.there b o e hx
  exact free b o' (y b o e) e1 (I.base.free b o e n hx)
 ·obtain⟨o',e1⟩:=I.base.there b o e hx
  exact there b o' (y b o e) e1
 ·obtain⟨F,e1⟩:=I.base.tbls b ps e
  obtain⟨m2,e2⟩:=tbls b _ e1;exact⟨F++m2,by rw[e2,Array.append_assoc]⟩
 ·obtain⟨m,G,J⟩:=I.loc
  refine⟨m,ns m G,fun i x v e1 e2 e3=>?_⟩;obtain⟨u,r,l⟩:=J i x v e1 e2 e3;refine⟨u,r,?_⟩;rcases l with l|⟨k,c,e,z⟩
  ·exact .inl l
  ·exact .inr ⟨k,c,e,a x c e _ z⟩
 ·obtain⟨v,z⟩:=I.cell x c e
  exact⟨v,a x c e v z⟩
 ·obtain⟨m,⟨o,_,_,g,_⟩,_⟩:=I.loc
  exact free _ o (fun z=>(j _ z).lo rfl) g I.free
 ·obtain⟨v,o,g,hd⟩:=I.cell x c e
  exact free c o (fun z=>(j c z).ce x c e rfl) g (I.freeC x c e)
 ·obtain⟨e,n,ne,D,d⟩:=I.pin p hp
  have f:p.1∉ch:=fun z=>(j p.1 z).pn p hp rfl;exact⟨keep p.1 p.2 ne D f e n,free p.1 p.2 f e n,ne,D,d⟩
def Inv.xkeep{fr:List Addr}{x:Addr}{T:Option Addr}(I:Inv X aa σ H s)(k:gj fr x T s.heap h')(hfr:∀b∈fr,b∈frs X.stack)(ox:Off X aa x)(hx:H x=none)(d:∀a,T=some a->Off X aa a/\H a=none):Inv X aa σ H {s with heap:=h'}:=by
 have c:∀b o,b∉(x::T.toList)->s.heap.get? b=some o->∃c,h'.get? b=some {o with slots:=c}:=fun b o hc e=>by
  by_cases hb:b∈fr
  ·exact k.2.1 b o e hb
  ·exact⟨o.slots,k.1 b o e (fun z=>hc (by simp[z])) (fun z=>hc (by simp[z])) hb⟩
 refine I.stepN (ch:=x::T.toList) (fun b hb=>?_) (fun b o f hb hc e _=>?_) (fun b o _ _ hc e _=>c b o hc e) (fun _ _ _ _ n=>n) (fun b o hc e=>?_) (fun _ _ e=>e) (fun _ _ _ e=>e) (fun b ps e=>⟨#[],by rw[e];simp⟩) (fun m hm=>?_) (vU I.hok k hx (fun a e=>(d a e).2) fun b hb=>I.stkFree b (hfr b hb))
 ·rcases List.mem_cons.mp hb with z|z
  ·rw[z];exact ox
  ·exact(d b (by simpa using z)).1
 ·exact k.1 b o e (fun z=>hc (by simp[z])) (fun z=>hc (by simp[z])) fun z=>(List.mem_cons.mp (I.stkSub b (hfr b z))).elim f hb
 ·obtain⟨z,e⟩:=c b o hc e
  exact⟨_,e⟩
 ·obtain⟨o,es,ep,g,r⟩:=hm
  obtain⟨z,e⟩:=c _ o (fun z=>by
   rcases List.mem_cons.mp z with z|z
   ·exact ox.lo z.symm
   ·exact(d _ (by simpa using z)).1.lo rfl) g
  exact⟨_,es,ep,e,r⟩
abbrev eH(x C:Addr):HO:=.ext fun h=>∃o,PySem.W.InstAt h x o C none
def Inv.know{x C:Addr}{T:Option Addr}(I:Inv X aa σ H s)(hx:H x=none)(ox:Off X aa x)(e:Xc s.heap x (.ref C) T):Inv X aa σ (upd H x (eH x C)) s:=by
 obtain⟨a,vs,he,hc,g,h,_⟩:=e;have i:PySem.W.notCls a=true:=by unfold PySem.W.notCls;rw[h]
 have d:match a.dict,(none:Option Obj) with|some dx,some o=>s.heap.get? dx=some o|none,none=>True|_,_=>False:=by rw[g];trivial
 have ne:∀b u,H b=some u->b≠x:=fun b u e z=>by rw[z,hx] at e;cases e
 refine I.stepN (h':=s.heap) (ch:=[x]) (fun b hb=>?_) (fun b o _ _ _ e _=>e) (fun b o _ _ _ e _=>⟨o.slots,e⟩) (fun b o hc _ n=>?_) (fun b o _ e=>⟨o,e⟩) (fun b xs e=>?_) (fun b o u e=>?_) (fun b ps e=>⟨#[],?_⟩) (fun m hm=>hm) (fun b u e=>?_)
 ·obtain rfl:b=x:=by simpa using hb
  exact ox
 ·rw[zi (fun z=>hc (by simp[z]))];exact n
 ·rw[zi (ne b _ e)];exact e
 ·rw[zi (ne b _ e)];exact e
 ·rw[zi (ne b _ e),e];simp
 ·by_cases hb:b=x
  ·subst hb
   rw[am] at e;cases e;refine⟨⟨a,he,hc,i,d⟩,⟨a,he⟩,fun h1 h2 ⟨o,e1,e2,e3,f⟩ q=>⟨o,q o e1,e2,e3,?_⟩⟩;cases z:o.dict with
   |none=>trivial
   |some dx=>rw[z] at f;exact f.elim
  ·rw[zi hb] at e
   refine(I.hok b u e).stay (fun c v _ q=>q) (fun c q=>?_) fun c xs q=>?_
   ·rw[zi (ne c _ q)];exact q
   ·rw[zi (ne c _ q)];exact q
end
end L2
end
section
namespace L2
open PySem PySem.Spec PyProof.Rows
section
variable{X:Cx}{aa bL:Ψ}{σ:List (Option V)}{H H':Hp}{s:Shared}{h':Heap}{EB:XK}
def G3(X:Cx)(aa:Ψ)(EB:XK):Ω:=fun e s=>∃(x C:Addr)(T:Option Addr)(σ:St)(H:Hp),e=.ref x/\Inv X aa σ H s/\Xc s.heap x (.ref C) T/\H x=none/\Off X aa x/\(∀a,T=some a->Off X aa a/\H a=none)/\EB (.ref x) (some C) H
abbrev XB(X:Cx)(aa:Ψ)(EB:XK):Cx:={X with pn:=X.pn++aa,xe:=G3 X aa EB}
abbrev XH(X:Cx)(aa:Ψ)(x:Addr):Cx:={X with A:=X.A.mark (some (.ref x)),calm:=false,pn:=X.pn++aa,xe:=fun _ _=>False}
def Inv.toB(I:Inv X aa σ H s):Inv (XB X aa EB) [] σ H s:=
 ⟨⟨I.ok.mod,I.ok.kind,I.ok.glob,I.ok.blt,I.ok.above,I.ok.inj,I.ok.has,I.ok.cab,I.ok.hd,I.ok.frames,I.ok.stk,I.ok.exf,I.ok.bs,I.ok.bsz,I.ok.noex,I.ok.exfs,I.ok.funs,I.ok.frf⟩,I.os,I.bare,I.base,I.loc,I.cell,I.free,I.freeC,
  fun p hp=>I.pin p (by simpa using hp),I.hok,I.len⟩
def Inv.ofB(I:Inv (XB X aa EB) bL σ H s):Inv X aa σ H s:=
 ⟨⟨I.ok.mod,I.ok.kind,I.ok.glob,I.ok.blt,I.ok.above,I.ok.inj,I.ok.has,I.ok.cab,I.ok.hd,I.ok.frames,I.ok.stk,I.ok.exf,I.ok.bs,I.ok.bsz,I.ok.noex,I.ok.exfs,I.ok.funs,I.ok.frf⟩,I.os,I.bare,I.base,I.loc,I.cell,I.free,I.freeC,
  fun p hp=>I.pin p (A9 _ hp),I.hok,I.len⟩
def Inv.toH{x:Addr}(I:Inv X aa σ H s):Inv (XH X aa x) [] σ H s:=
 ⟨⟨I.ok.mod,I.ok.kind,I.ok.glob,I.ok.blt,I.ok.above,I.ok.inj,I.ok.has,I.ok.cab,(fun z=>nomatch z),I.ok.frames,I.ok.stk,I.ok.exf,I.ok.bs,I.ok.bsz,I.ok.noex,I.ok.exfs,I.ok.funs,I.ok.frf⟩,I.os,I.bare,I.base,I.loc,I.cell,I.free,I.freeC,
  fun p hp=>I.pin p (by simpa using hp),I.hok,I.len⟩
def Inv.ofH{x:Addr}(I:Inv (XH X aa x) bL σ H s)(hd:X.calm=true->X.A.handled=none):Inv X aa σ H s:=
 ⟨⟨I.ok.mod,I.ok.kind,I.ok.glob,I.ok.blt,I.ok.above,I.ok.inj,I.ok.has,I.ok.cab,hd,I.ok.frames,I.ok.stk,I.ok.exf,I.ok.bs,I.ok.bsz,I.ok.noex,I.ok.exfs,I.ok.funs,I.ok.frf⟩,I.os,I.bare,I.base,I.loc,I.cell,I.free,I.freeC,
  fun p hp=>I.pin p (A9 _ hp),I.hok,I.len⟩
def SP.ofB{D:Ends}{f:Flow}{s':Shared}(h:SP (XB X aa EB) [] D f s'):SP X aa D f s':=by
 cases f with
 |next=>obtain⟨a,H',I,q⟩:=h;exact⟨a,H',I.ofB,q⟩
 |brk=>obtain⟨a,H',I,q⟩:=h;exact⟨a,H',I.ofB,q⟩
 |cont=>obtain⟨a,H',I,q⟩:=h;exact⟨a,H',I.ofB,q⟩
 |ret u=>obtain⟨v,a,H',I,r,q⟩:=h;exact⟨v,a,H',I.ofB,r,q⟩
def G4(hex:X.ex=[]):b8 (cZ X.prog X.w) (XB X aa EB) EB:=by
 rintro bL σ H1 g e h I ⟨x,C,T,H',rfl,os,c,un,d,i,j,f,hx,l⟩;have I2:Inv (XB X aa EB) bL σ H' h:=I.call' (ch:=[]) os un d c (fun b z=>absurd z (by simp));have J:Inv X aa σ H1 g:=I.ofB;exact⟨x,C,T,σ,H',rfl,I2.ofB,hx,i,J.off hex j,fun a e=>⟨J.off hex (f a e).2,(f a e).1⟩,l⟩
def Inv.gone{i:Nat}{n:Str}{m:Str->Option Value}{u:Option Value}(I:Inv X aa σ H s)(D:X.N.Nodup)(hi:X.N[i]?=some n)(E:∀(i:Nat)(x:Str)(v:V),X.N[i]?=some x->σ[i]?=some (some v)->ij X.env.scope x->∃u,RelV v u/\Look X.env s.heap m x u)(F:h'.Ns X.env.locals fun y=>if y=n then u else m y)(hs:A4 X.env.locals s.heap h'):Inv X aa (σ.set i none) H {s with heap:=h'}:=by
 have a:i<σ.length:=by rw[I.len];exact(List.getElem?_eq_some_iff.mp hi).1
 refine⟨I.ok,I.os,I.bare,⟨fun b o e n hb hx=>?_,fun b o e n hb hx=>?_,I.base.free,fun b o e hx=>?_,I.base.tups,I.base.frzs,I.base.tbls⟩,⟨_,F,fun j y h e1 e2 e3=>?_⟩,fun y c e=>?_,I.free,I.freeC,fun p hp=>?_,fun b l e=>?_,by simpa using I.len⟩
 ·exact(hs.2 b (Al (Ay (Ah e) I.ok.above))).trans (I.base.keep b o e n hb hx)
 ·obtain⟨r,e1⟩:=I.base.slot b o e n hb hx
  exact⟨r,(hs.2 b (Al (Ay (Ah e) I.ok.above))).trans e1⟩
 ·obtain⟨o',e1⟩:=I.base.there b o e hx
  exact⟨o',(hs.2 b (Al (Ay (Ah e) I.ok.above))).trans e1⟩
 ·by_cases f:j=i
  ·subst f
   rw[List.getElem?_set_self a] at e2;cases e2
  ·rw[List.getElem?_set_ne (Ne.symm f)] at e2
   obtain⟨w,A,q⟩:=E j y h e1 e2 e3;refine⟨w,A,?_⟩;rcases q with ⟨k,e⟩|⟨k,c,e,z⟩
   ·refine .inl ⟨k,?_⟩
    have:y≠n:=fun e=>f (oZ D e1 (e▸hi));simp[this,e]
   ·exact .inr ⟨k,c,e,z.sameBut hs (I.cne y c e)⟩
 ·obtain⟨g,z⟩:=I.cell y c e
  exact⟨g,z.sameBut hs (I.cne y c e)⟩
 ·obtain⟨e,n,ne,C,d⟩:=I.pin p hp
  exact⟨(hs.2 p.1 ne).trans e,n,ne,C,d⟩
 ·refine(I.hok b l e).stay (fun c g hc q=>(hs.2 c ?_).trans q) (fun _ q=>q) fun _ _ q=>q
  rintro rfl;rcases hc with z|z
  ·rw[<-z,I.free] at e;cases e
  ·rw[I.free] at z;cases z
def gN(K:Ae)(C S:Addr):Prop:=∀h:Heap,K.In h->∃nm q N bs bm hdct sn sub ab col dd k0 k1 k2 k3 k5 c d e N' f a g i j l o p r s u v w x,
 h.get? C=some (excClassObj nm q C N bs bm hdct sn sub ab col dd k0 k1 k2 k3 k5 c)/\h.get? S=some (excClassObj d e S N' f a g i j l o p r s u v w x)/\
 a.contains (.type "BaseException")=true/\(Value.ref C::bm).contains (.ref S)=true
def vZ(K:Ae)(n ie:Nat)(S:Addr)(f:TS)(D:Ends):XK:=fun e c H'=>∃x C,e=.ref x/\c=some C/\gN K C S/\∀a:St,a.length=n->
 f {nx:=fun d H2=>D.nx (d.set ie none) H2,rt:=fun _ _=>False} (a.set ie (some (.ref x))) (upd H' x (eH x C))
def v0(K:Ae)(n ie:Nat)(S:Addr)(t:XK->TS)(a:TS):TS:=fun D σ H=>t (vZ K n ie S a D) D σ H
def G5{n:Str}{ie:Nat}{p:Str}{S:Addr}{body P:List Stmt}{Q:Stmt}{t:XK->TS}{U:TS}{np W pos:Pos}(hex:X.ex=[])(A:X.N.Nodup)(j:X.N[ie]?=some n)(g:X.env.scope.names.lookup n=some .local)(c:X.stack=X.env::X.outer)(hfr:X.env.frame=some X.env.locals)(se:Gl X p)(qS:X.mg p=some (.ref S))(hb:∀aa EB,PSs (XB X aa EB) body (t EB))(hH:∀aa x,PSs (XH X aa x) (Q::P) U)(hd:(p==("__debug__":Str))=false:=by decide):PS X (.Try body [.ExceptHandler (some (.Name p np)) (some n) (Q::P) W] [] [] pos) (v0 X.K X.N.length ie S t U):=by
 intro aa s σ H D I h;refine wpAny_Try_except (Bb (hb aa _ [] s σ H D I.toB h) (fun f d q=>?_) (fun e d q=>?_))
 ·have i:SP X aa D f d:=q.ofB
  cases f with
  |next=>exact wpAny_execs_nil i
  |brk=>exact i
  |cont=>exact i
  |ret u=>exact i
 obtain⟨x,C,T,o,H1,rfl,I1,hx,w,ox,hT,x',C',e1,e2,sub,k⟩:=q;cases e1;cases e2;have uf:=c;refine G0 (base:=X.base) (outer:=X.outer) (L:=X.env.locals) (by rw[<-c];exact I1.ok.frames) (by rw[<-c];exact I1.stack) hfr hx fun h2 T2 E F uW=>?_;have I2:Inv X aa o H1 {d with heap:=h2}:=I1.xkeep uW (fun b z=>by rw[c];exact z) ox w hT;have pO:d.heap.get? T2=none:=Heap.get?_none_of_le E;have uD:Off X aa T2:=I1.off hex pO;have sD:H1 T2=none:=I1.hok.fresh E;refine wpAny_handleBy_cons (codeAny_handlers_test ?_) (by intro q;cases q);refine j6 (X:=XH X aa x) (I2.toH (x:=x)) se qS ?_ hd;obtain⟨nm,q,N,bs,bm,hdct,sn,dw,ab,col,dd,k0,k1,k2,k3,k5,bH,hV,i,N',hJ,fe,b0,ip,nR,gR,dv,d0,gS,il,io,gZ,gW,cy,hC,hS,jX,bB⟩:=sub h2 I2.kIn;obtain⟨oe,vs,fh,y,_⟩:=id F;refine G2 hC hS fh y jX bB ?_;show codeAny _ _ _ _ _;refine codeAny_handlers_suite_as ?_;refine G1 F fun r qo dH=>?_;have I4:Inv X aa o H1 {d with heap:=r}:=I2.xkeep (h':=r) dH (fun b z=>absurd z (by simp)) ox w (fun a e=>by cases e;exact⟨uD,sD⟩);have I5:Inv X aa o (upd H1 x (eH x C)) {d with heap:=r}:=I4.know w ox qo;refine mD (X:=XH X aa x) (I5.toH (x:=x)) A j (.inl g) (v:=.ref x) rfl (fun s6 I6=>?_) (.inr g);refine Bb (hH aa x [] s6 _ _ _ I6 (k o I1.len)) (fun f G l=>?_) fun _ _ z=>z.elim;cases f with
 |brk=>obtain⟨_,_,_,z⟩:=l;exact z.elim
 |cont=>obtain⟨_,_,_,z⟩:=l;exact z.elim
 |ret u=>obtain⟨_,_,_,_,_,z⟩:=l;exact z.elim
 |next=>
  obtain⟨J,Y,I7,d7⟩:=l;have I7':Inv X aa J Y G:=I7.ofH I.ok.hd;show wpAny _ _ (do bindName X.env n .none;unbindBehindTheSuite X.env n W) _ _ G;refine Aa (wpAny_bindName (mD I7' A j (.inl g) (v:=.non) rfl (fun s8 I8=>?_) (.inr g)));obtain⟨m,hn,M⟩:=id I8.loc;have lZ:ie<J.length:=by rw[I7'.len];exact(List.getElem?_eq_some_iff.mp j).1
  obtain⟨u,_,lk⟩:=M ie n .non j (by rw[List.getElem?_set_self lZ]) (.inl g);have O:X.env.kindOf n=some .local:=g;have hm:m n=some u:=by
   rcases lk with ⟨_,e⟩|⟨z,_⟩
   ·exact e
   ·rw[O] at z;rcases z with z|z<;>cases z
  unfold unbindBehindTheSuite;refine wpAny_onRaise (wpAny_unbindName_local O hn hm (by rw[I.ok.kind];rfl) fun h9 u9 uZ rX=>?_);have Z:=I8.gone A j M uZ rX;rw[List.set_set] at Z;exact⟨_,Y,Z,d7⟩
end
end L2
end
section
namespace L2
open PySem PySem.Spec PyProof.Rows
def G6{K:Ae}{C:Addr}{name:Str}{a g:Value}(hc:(PySem.W.clsIn K C).isSome=true)(c:PySem.W.findIn K (.ref C) name=some (some a))(d:PySem.W.specialIn K a "__get__"=some (some g))(ht:PySem.W.takesIn K a=some true):PySem.W.findObj K C none name=some (.bind g a):=by
 obtain⟨e,hc⟩:=Option.isSome_iff_exists.mp hc;unfold PySem.W.findObj;rw[hc,Option.bind_some,c,Option.bind_some];simp[d,ht]
structure dq(K:Ae)(D:Addr):Prop where
 ga:PySem.W.findIn K (.ref D) "__getattribute__"=some (some (.builtin "BaseException.__getattribute__"))
 gt:PySem.W.findIn K (.ref D) "__getattr__"=some none
 cls:(PySem.W.clsIn K D).isSome=true
 find:PySem.W.findIn K (.ref D) "__class__"=some (some (.builtin "object.__class__"))
 spec:PySem.W.specialIn K (.builtin "object.__class__") "__get__"=some (some (.builtin "getset_descriptor.__get__"))
 tk:PySem.W.takesIn K (.builtin "object.__class__")=some true
 mro:PySem.W.mroIn K D (.type "object")=some true
 mroB:PySem.W.mroIn K D (.type "BaseException")=some true
section
variable{prog:Program}{w:World}{A:Around}{E:Ω}{s:Shared}{K:Ae}{x D:Addr}{ox:Obj}
def G7{M:Model}{e:Value}{Q:Unit->Shared->Prop}(c:dq K D)(X:K.In s.heap)(I:PySem.W.InstAt s.heap x ox D none)(hq:Q () s):wpAny M A (checkBuiltinCall "BaseException.__getattribute__" ⟨[.ref x,e],[]⟩) Q E s:=by
 obtain⟨f,g,d,t,os⟩:=s;have hk:builtinKind "BaseException.__getattribute__"=some .slot:=δ
 have a:splitId "BaseException.__getattribute__"=some ("BaseException","__getattribute__"):=δ
 have h:=F.args_bexc_ga (.ref x) e;have L0:=I.type (M:=M);have L1:=PySem.W.looks_mroIn (M:=M) X c.mroB;simp only[checkBuiltinCall,hk,a];refine Aa ?_;unfold isInstance;refine Aa (L0.at (L1.at ?_))
 repeat(first|assumption|wp_step)
def G8{tk:Tok}{Q:Fin->Shared->Prop}(c:dq K D)(X:K.In s.heap)(I:PySem.W.InstAt s.heap x ox D none)(hq:Q (.done (.ret (.ref D))) s):wpAny (model prog w) A (Builtin.«object.__getattribute__» ⟨[.ref x,.str "__class__" tk],[]⟩) Q E s:=by
 obtain⟨a,g,d,t,os⟩:=s;have hf:=G6 c.cls c.find c.spec c.tk;have L0:=I.type (M:=model prog w);have L1:=PySem.W.looks_find (M:=model prog w) X I hf;unfold Builtin.«object.__getattribute__»
 repeat(first|with_reducible refine Aa (L0.at ?_)|with_reducible refine Aa (L1.at ?_)|wp_step)
 exact PySem.W.class_get (s:=⟨a,g,d,t,os⟩) X I c.mro (Ad hq)
def G9{Q:Option Value->Shared->Prop}(c:dq K D)(X:K.In s.heap)(I:PySem.W.InstAt s.heap x ox D none)(h:Q (some (.ref D)) {s with toks:=s.toks+1}):wpAny (model prog w) A (getAttr? (.ref x) "__class__") Q E s:=by
 obtain⟨a,g,d,t,os⟩:=s;have L0:=I.type (M:=model prog w);have L1:=PySem.W.looks_findIn (M:=model prog w) X c.ga;have L2:=PySem.W.looks_findIn (M:=model prog w) X c.gt;have FA:=F.excAttr_ValueError;have f3:=FA.ga.bind (.ref x);have e:(Value.builtin "BaseException.__getattribute__" == Value.builtin "object.__getattribute__")=false:=δ
 unfold getAttr? getAttrBy? getAttrBy;refine Aa (wpAny_mkText (Aa (wpAny_attempt (A0 (Aa (L0.at (Aa (L1.at ?_))))))));dsimp only;rw[if_neg (by rw[e,Bd];decide)];unfold getAttrByItsOwn hookBefore;rw[if_pos (show onTheHeap (.ref D)=true from rfl)];refine Aa (L2.at ?_);refine Aa (wpAny_attempt (A0 ?_));unfold callGetattribute boundAndCalled;rw[Bool.false_and,if_neg Ax,f3];refine Aa (Ad ?_);refine wpAny_call (codeAny_call_builtin FA.ga.plain F.entry_bexc_ga (G7 (s:=⟨a,g,d,t+1,os⟩) c X I (G8 (s:=⟨a,g,d,t+1,os⟩) c X I ?_)));exact PySem.W.handed_on rfl (Ad h)
end
def G_{K:Ae}{x D:Addr}{ox:Obj}(c:dq K D):PySem.W.KitX K (.ref x) (.ref D) (fun h=>PySem.W.InstAt h x ox D none) where
 ty:=fun _ _ _ I=>I.type
 it:=fun _ _ X _=>by
  obtain⟨f,a⟩:=Option.isSome_iff_exists.mp c.cls;unfold PySem.W.clsIn at a;split at a
  ·rename_i c' d' cd' dF ho
   intro j l o s' k q;unfold isType loadHead;exact Aa (wpAny_loadPart (k _ _ (X _ _ ho)) (Ad q))
  ·cases a
 ne:=fun h tp dd g n i X d=>by
  obtain⟨f,a⟩:=Option.isSome_iff_exists.mp c.cls;refine Bool.eq_false_iff.mpr fun q=>?_;have e:D=tp:=Value.ref.inj (beq_iff_eq.mp q);subst e;unfold PySem.W.clsIn at a;split at a
  ·rename_i c' d' cd' dF ho
   have z:=(X _ _ ho).symm.trans d;cases z
  ·cases a
 ca:=fun X I k=>G9 c X I k
section
variable{X:Cx}
def BK{c:V}{a:Value}{b:Bool}{C:Addr}(g:∀u,RelV c u->u=a)(xc:dq X.K C)(e:AL X.K (.ref C) a=some b):dg X (.builtin "isinstance") (fun xs H Q=>∃x,xs=[.ref x,c]/\H x=some (eH x C)/\Q (.bl b) H):=by
 intro aa s σ H xs us Q I r h;obtain⟨x,rfl,hx,q⟩:=h;obtain⟨u,i,rfl,d,f⟩:=vals2 r;obtain rfl:=g _ f;cases(show u=Value.ref x from d);obtain⟨⟨o,p⟩,_⟩:=(show zQ X.prog X.w H s.heap x (eH x C) from I.hok x _ hx);exact PySem.W.kia_one (G_ xc) I.kIn p e (fun z=>nomatch z) fun tk=>⟨.bl b,H,I.tok _,rfl,q⟩
end
structure zbZ(k:Nat)(A:Around):Prop where
 dp:A.depth+3*k+5<recursionLimit
 un:A.units+16*k+200<cLine
def Room.mark{k:Nat}{A:Around}(r:Room k A)(v:Option Value):zbZ k (A.mark v):=⟨r.dp,r.un⟩
def zbZ.deeper{k:Nat}{A:Around}(r:zbZ (k+1) A)(env:Env):zbZ k (A.deeper env):=
 ⟨by have:=r.dp;show A.depth+1+3*k+5<_;omega,by have:=r.un;show A.units+3+16*k+200<_;omega⟩
def zbZ.depth{k:Nat}{A:Around}(r:zbZ k A):A.depth<recursionLimit:=by have:=r.dp;omega
def zbZ.units{k:Nat}{A:Around}(r:zbZ k A):A.units+64<cLine:=by have:=r.un;omega
structure lY(P:Program)(w:World)(K:Ae)(mg:Str->Option Value)(base:Heap)(k:Nat)(f:Addr)(fd:FuncData)(ps:List Str)(sp:Sp):Prop where
 len:∀vs H Q E,sp vs H Q E->vs.length=ps.length
 run:∀(A:Around)(outer:List Env)(s:Shared)(H:Hp)(args:Args)(us:List Value)(vs:List V)(Q:VK)(E:XK),zbZ k A->Env0 P w K mg base A outer s H->BindsTo s fd args (ps.zip us)->Vals vs us->sp vs H Q E->
  codeAny (model P w) A (.call (.ref f) args) (CR aT outer P w H s Q E) s
abbrev l7(P:Program)(w:World)(K:Ae)(mg:Str->Option Value)(base:Heap)(N:List Str)(ai:Str)(scope:Scope)(f:Addr)(cd:Value)(A:Around)(outer:List Env)(s:Shared)(H:Hp)(E:XK):Cx:=
 {bh aT P w K mg base N ai scope f cd A outer s H E with calm:=false,xe:=fun _ _=>False}
def G'{P:Program}{w:World}{K:Ae}{mg:Str->Option Value}{base:Heap}{N ps:List Str}{c:Str}{scope:Scope}{f:Addr}{d:Value}{A:Around}{outer:List Env}{s e:Shared}{H:Hp}{E:XK}{us:List Value}{vs:List V}(S:zo N ps scope)(a:Env0 P w K mg base A outer s H)(g:vs.length=ps.length)(r:Vals vs us)(x:InCallC s s⁻¹ (bindL (envOfC c scope s⁻¹ f d).kindOf (ps.zip us) fun _=>none) (Bk (s⁻¹+1) scope.names []) (bindC (envOfC c scope s⁻¹ f d).kindOf (ps.zip us) fun _=>none) e):Inv (l7 P w K mg base N c scope f d A outer s H E) [] (start N vs) H e:=by
 have I:Inv (bh aT P w K mg base N c scope f d {A with handled:=none} outer s H E) [] (start N vs) H e:=wQ (A:={A with handled:=none}) S rfl ⟨a.frames,a.mod,a.bs,a.bsz,a.funs,a.frf,a.hok,a.bare⟩ g r x;exact⟨⟨I.ok.mod,I.ok.kind,I.ok.glob,I.ok.blt,I.ok.above,I.ok.inj,I.ok.has,I.ok.cab,(fun z=>nomatch z),Around.frames_deeper a.frames,I.ok.stk,I.ok.exf,I.ok.bs,I.ok.bsz,I.ok.noex,I.ok.exfs,I.ok.funs,I.ok.frf⟩,I.os,I.bare,I.base,I.loc,I.cell,I.free,I.freeC,I.pin,I.hok,I.len⟩
def Ha{P:Program}{w:World}{K:Ae}{mg:Str->Option Value}{base:Heap}{k:Nat}{f:Addr}{name a:Str}{i:Arguments}{body:List Stmt}{scope:Scope}{j kV l p cdv ct U:Value}{z X:Option Addr}{F:Array (Option Value)}{N ps:List Str}{sp:Sp}(lk:K.lookup f=some ⟨U,X,.func (PySem.W.fnOf name a i body scope j kV l p z cdv ct),F⟩)(G:PySem.W.codeIn K cdv a=true)(S:zo N ps scope)(len:∀vs H Q E,sp vs H Q E->vs.length=ps.length)(Y:∀(A:Around)(outer:List Env)(s:Shared)(H:Hp)(vs:List V)(Q:VK)(E:XK),zbZ k (A.deeper (envOfC a scope s⁻¹ f cdv))->sp vs H Q E->
   ∃t,PSs (l7 P w K mg base N a scope f cdv A outer s H E) body t/\t {nx:=fun _ H'=>Q .non H',rt:=Q} (start N vs) H):
  lY P w K mg base (k+1) f (PySem.W.fnOf name a i body scope j kV l p z cdv ct) ps sp:=by
 refine⟨len,fun A outer s H args us vs Q E hr c hb r d=>?_⟩;have M:=len _ _ _ _ d;have D:K.In s.heap:=c.mod.kin.keeps fun b o e=>(c.bs b o e).1;have O:s.heap.NoLimit:=c.mod.nolimit.keeps fun b o e=>(c.bs b o e).1;have T:∀y∈ps.zip us,scope.names.lookup y.1=some .local\/(scope.names.lookup y.1=some .cell/\((Bk (s⁻¹+1) scope.names []).lookup y.1).isSome=true):=fun⟨n,v⟩ hy=>by
  rcases S.par n (List.of_mem_zip hy).1 with q|q
  ·exact .inl q
  ·exact .inr ⟨q,PySem.W.cellsFrom_some _ _ _ (.inl q)⟩
 refine codeAny_call_function hr.depth (D _ _ lk) rfl S.co S.gen rfl (PySem.W.codeRec_of D G) (hb _ _ _ _ ?_);refine wpAny_newFunctionEnv_cells S.kind T fun env he C x=>?_;subst he;refine⟨O.keeps x.toInCall.keep,codeAny_func ?_⟩;obtain⟨t,ht,hq⟩:=Y A outer s H vs Q E (hr.deeper _) d;have I:Inv (l7 P w K mg base N a scope f cdv A outer s H E) [] (start N vs) H C:=G' S c M r x;refine Bb (ht [] C (start N vs) H _ I hq) (fun L s' hs=>?_) fun e s' hs=>hs.elim;have fin:∀{g:St}{H':Hp}{v:V}{u:Value},Inv (l7 P w K mg base N a scope f cdv A outer s H E) [] g H' s'->RelV v u->Q v H'->CE outer P w H s Q u s':=
  fun{g H' v u} J h q=>⟨v,H',J.os,J.bare,J.base,J.hok,h,q⟩
 cases L with
 |ret u=>
  obtain⟨v,g,H',J,h,q⟩:=hs;exact fin J h q
 |next=>
  obtain⟨g,H',J,q⟩:=hs;exact fin (v:=V.non) (u:=Value.none) J rfl q
 |brk=>
  obtain⟨_,_,_,q⟩:=hs;exact False.elim q
 |cont=>
  obtain⟨_,_,_,q⟩:=hs;exact False.elim q
def Fun.okN{P:Program}{w:World}{K:Ae}{mg:Str->Option Value}{base:Heap}{x c:Str}{st:Stmt}{f:Addr}{fd:FuncData}{N ps:List Str}{k:Nat}{sp:Sp}(F:Fun K x c st f fd)(S:zo N ps (zf st))(len:∀vs H Q E,sp vs H Q E->vs.length=ps.length)(e:∀(cdv:Value)(A:Around)(outer:List Env)(s:Shared)(H:Hp)(vs:List V)(Q:VK)(E:XK),zbZ k (A.deeper (envOfC c (zf st) s⁻¹ f cdv))->sp vs H Q E->
   ∃t,PSs (l7 P w K mg base N c (zf st) f cdv A outer s H E) (zM st) t/\t {nx:=fun _ H'=>Q .non H',rt:=Q} (start N vs) H):lY P w K mg base (k+1) f fd ps sp:=by
 obtain⟨g,h,kV,i,j,l,cdv,ct,o,rfl,lk,d⟩:=F.ex;exact Ha lk d S len fun A outer s H vs Q E hr a=>e cdv A outer s H vs Q E hr a
section
variable{X:Cx}{k:Nat}{f:Addr}{fd:FuncData}{ps:List Str}{sp:Sp}{dy:List V}{ds:List Value}{E:XK}{x:Str}{p pos:Pos}{e:Expr}{es:List Expr}{t:TA}
def Hb(F:lY X.prog X.w X.K X.mg X.base k f fd ps sp)(hr:zbZ k X.A)(i:Gl X x)(hm:X.mg x=some (.ref f))(hk:PySem.W.keepIn X.K (.ref f)=true)(hb:Binds X.K fd ps ds)(hd:Vals dy ds)(j:PA X (e::es) t)(l:(x==("__debug__":Str))=false:=by decide)(he:starEach (e::es) X.env=(false,eval e X.env)::starEach es X.env:=by rfl)(a:(backTo pos (starEach es X.env)).any (·.1)=false:=by rfl):PE X (.Call (.Name x p) (e::es) [] pos) (jn sp dy E t):=by
 intro aa s σ H Q I h;refine wpAny_Call_Name_kw (j6 I i hm ?_ l);refine PySem.W.callWith_K (h₀:=X.base) I.ok.mod.kin hk (bd (j pos aa s σ H _ I h) fun us c ⟨vs,H1,I1,r,q⟩=>⟨I1.kIn,?_⟩) he a;have d:Vals (vs++dy) (us++ds):=r.append hd;have g:(us++ds).length=ps.length:=by rw[<-d.length];exact F.len _ _ _ _ q
 refine wpAny_call (codeAny_mono (F.run X.A X.stack c H1 ⟨us,[]⟩ (us++ds) (vs++dy) Q E hr I1.env0 (hb c us I1.kIn g) d q) fun r s' hq=>?_);cases r with
 |error e=>exact hq.elim
 |ok fl=>
  cases fl with
  |ret u=>exact I1.after hq
  |next=>exact False.elim hq
  |brk=>exact False.elim hq
  |cont=>exact False.elim hq
end
end L2
end
section
namespace L2
open PySem PySem.Spec PyProof.Rows
section
variable{X:Cx}
abbrev zk6:V->List V->Hp->VK->Prop:=fun x vs H Q=>∃(l:Addr)(ys:List V)(y:V),x=.ref l/\vs=[y]/\H l=some (.lst ys)/\ys.all dL=true/\dL y=true/\Q (.int (ys.countP fun z=>ej z y)) H
abbrev zkc:V->List V->Hp->VK->Prop:=fun x vs H Q=>∃(l:Addr)(ys:List V)(y:V)(j:Nat),x=.ref l/\vs=[y]/\H l=some (.lst ys)/\ys.all dL=true/\dL y=true/\j<1000/\((ys[j]?).map fun z=>ej z y)=some true/\(∀m,m<j->((ys[m]?).map fun z=>ej z y)=some false)/\Q (.int j) H
def Hc{x:V}{xs:List V}{us:List Value}(h:Vals xs us)(f:xs.all dL=true):us.countP (dO x)=xs.countP fun y=>ej y x:=by
 induction h with
 |nil=>rfl
 |cons r t ih=>
  rw[List.all_cons,AE] at f;rw[List.countP_cons,List.countP_cons,mM r f.1,ih f.2]
def BL{x:V}{xs:List V}{us:List Value}(h:Vals xs us)(f:xs.all dL=true):∀m:Nat,(us[m]?).map (dO x)=(xs[m]?).map fun y=>ej y x:=by
 induction h with
 |nil=>intro m;simp
 |cons r t ih=>
  rw[List.all_cons,AE] at f;intro m;cases m with
  |zero=>simp[mM r f.1]
  |succ m=>simpa using ih f.2 m
def Hd:jp X "list.count" zk6:=by
 intro aa s σ H x vs v us Q I f g h;obtain⟨l,ys,y,rfl,rfl,j,a,o,q⟩:=h;cases f;obtain⟨u,rfl,p⟩:=g.one;obtain⟨z,d,c,r,A,e⟩:=I.lstM j;refine call_meets F.slot_list_count ⟨_,e,rfl⟩ F.entry_list_count (F.args_list_count_2 _ _) (SeqAt.list_countAt l d.toArray c none #[] u (dO y)) ⟨e,fun i hy=>?_,?_⟩
 ·exact kA p o r a i (by simpa using hy)
 ·have w:d.toArray.toList.countP (dO y)=ys.countP fun z=>ej z y:=Hc r a
  exact⟨.int (ys.countP fun z=>ej z y),H,I.tok _,⟨_,by rw[<-w]⟩,q⟩
def He:jp X "list.index" zkc:=by
 intro aa s σ H x vs v us Q I i o h;obtain⟨l,ys,y,j,rfl,rfl,A,d,C,E,h1,h2,q⟩:=h;cases i;obtain⟨u,rfl,D⟩:=o.one;obtain⟨z,a,c,r,G,e⟩:=I.lstM A;have g1:=(BL (x:=y) r d j).trans h1;have g:j<a.toArray.size:=by
  rcases Nat.lt_or_ge j a.length with q|q
  ·simpa using q
  ·rw[List.getElem?_eq_none q] at g1;cases g1
 have get:∀(m:Nat)(hm:m<a.toArray.size),(a[m]?).map (dO y)=some (dO y a.toArray[m]):=fun m hm=>by
  rw[Ao (by simpa using hm)];rfl
 have f:(j:Int)<2 ^ 63-1:=by
  have h1:(j:Int)<1000:=ω
  have h2:(1000:Int)<2 ^ 63-1:=ξ
  omega
 refine call_meets F.slot_list_index ⟨_,e,rfl⟩ F.entry_list_index (F.args_list_index_2 _ _) (SeqAt.list_indexAt l a.toArray c none #[] u (dO y) j g f ?_ ?_) ⟨e,fun p hy=>?_,?_⟩
 ·exact As ((get j g).symm.trans g1)
 ·intro m hm w
  exact As ((get m hm).symm.trans ((BL (x:=y) r d m).trans (h2 m w)))
 ·exact kA D C r d p (by simpa using hy)
 ·exact⟨.int j,H,I.tok _,⟨_,rfl⟩,q⟩
end
end L2
end
section
namespace L2
open PySem PySem.Spec PyProof.Rows
def Hf{K:Ae}{C S:Addr}(q1:PySem.W.excIn K C jb "ValueError.__new__"=true)(F:PySem.W.excIn K S jb "ValueError.__new__"=true)(m:PySem.W.mroIn K C (.ref S)=some true):gN K C S:=by
 intro h X;obtain⟨bm,N,nm,e,bs,hdct,sn,sub,ab,col,dd,k0,k1,k2,k3,k5,G,_,H,d⟩:=vY X q1;obtain⟨f,N',i,j,l,o,p,q,r,s,u,v,w,x,y,A,I,_,D,E⟩:=vY X F;refine⟨nm,e,N,bs,bm,hdct,sn,sub,ab,col,dd,k0,k1,k2,k3,k5,_,i,j,N',l,f,o,p,q,r,s,u,v,w,x,y,A,_,(d h X).1,(E h X).1,D _ ξ,?_⟩;have g:=(d h X).1;unfold PySem.W.mroIn at m;obtain⟨J,a,b⟩:=Option.bind_eq_some_iff.mp m;unfold PySem.W.clsIn at a;split at a
 ·rename_i c' d' cd' dF ho
  cases a;have z:=(X _ _ ho).symm.trans g;injection z with z
  have c:=congrArg Obj.data z;injection c with c
  subst c;split at b
  ·cases b
  ·exact As b
 ·cases a
def Hg{K:Ae}{C:Addr}{bm:List Value}{n:String}(q:PySem.W.excIn K C bm n=true):(PySem.W.clsIn K C).isSome=true:=by
 unfold PySem.W.excIn at q;unfold PySem.W.clsIn;split at q
 ·rename_i ho;rw[ho];rfl
 ·cases q
end L2
end
section
namespace L2
open PySem PySem.Spec PyProof.Rows
def XcH(h:Heap)(x:Addr)(C:Value)(a:Addr)(f:Value):Prop:=
 ∃c vs d e,h.get? x=some c/\c.cls=C/\c.dict=none/\c.data=.fields vs/\1<vs.size/\vs[1]?=some (.ref a)/\a≠x/\h.get? a=some d/\d.data=.fields e/\e[3]?=some f
def XcH.xc{h:Heap}{x a:Addr}{C:Value}(q:XcH h x C a .none):Xc h x C (some a):=by
 obtain⟨c,vs,d,e,h1,h2,f,g,i,j,l,o,p,r⟩:=q;exact⟨c,vs,h1,h2,f,g,i,.inr ⟨a,d,e,rfl,j,l,o,p,r⟩⟩
def Hh{x:Value}{env a:Env}(h:a.frame=env.frame):noteFrame x a=noteFrame x env:=by
 unfold noteFrame PySem.frameOf;rw[h]
section
variable{M:Model}{A:Around}{E:Ω}{s:Shared}
def BM{base:Heap}{env:Env}{outer:List Env}{L x:Addr}{g:Obj}{vs:Array Value}{head:Value}{J:Bool}{Q:Unit->Shared->Prop}(hfr:A.frames=some (env::outer))(y:s.heap.FunFrames base (env::outer))(hf:env.frame=some L)(he:s.heap.get? x=some g)(N:g.dict=none)(hd:g.data=.fields vs)(hsz:1<vs.size)(h:∀h' T',s⁻¹<=T'->XcH h' x g.cls T' (rawInt L)->gj ((env::outer).filterMap (·.frame)) x none s.heap h'->Q () {s with heap:=h'}):wpAny M A (do let a <-frameOf env;let d <-entryPlaceOf L J;let b <-EntryCells.newEntry head a .none (rawInt L) .none d;setField (.ref x) 1 b) Q E s:=by
 have f:x∉(env::outer).filterMap (·.frame):=fun hm=>by
  obtain⟨_,o,j,C⟩:=y.mem hm;rw[he] at j;injection j with j;subst j;exact C vs hd
 refine Aa (wpAny_frameOf_fun hfr y hf fun c i=>?_);refine Aa (wpAny_entryPlaceOf fun d l=>?_);unfold EntryCells.newEntry newFields;refine Aa (AS ?_ (l.sizeOk5 _ _ _ _ _));have r:c.get? x=some g:=(i.2.1 x f).trans he;have u:=Ac (h:=c) {cls:=.type "traceback",dict:=none,data:=.fields ([head,.ref L,.none,rawInt L,.none]++(if d.isEmpty then List.replicate 6 Value.none else d)).toArray} r;have v:c.objs.size≠x:=Nat.ne_of_gt (Ah r);have w:=Obj.data_mapFields hd (·.setIfInBounds 1 (Value.ref c.objs.size));have G:=Heap.get?_update_self (Obj.mapFields (·.setIfInBounds 1 (Value.ref c.objs.size))) u (Obj.isFreed_of_fields w);have H:=(AM (c.push {cls:=.type "traceback",dict:=none,data:=.fields ([head,.ref L,.none,rawInt L,.none]++(if d.isEmpty then List.replicate 6 Value.none else d)).toArray})
  (Obj.mapFields (·.setIfInBounds 1 (Value.ref c.objs.size))) (Ne.symm v)).trans (Av c rfl)
 have I:c.objs.size=s⁻¹:=i.1;refine wpAny_setField u hd hsz (h _ c.objs.size ω ?_ ?_)
 ·exact⟨_,_,_,_,G,Obj.cls_mapFields _ _,(BJ _ _).trans N,w,by simpa using hsz,by simp[hsz],v,H,rfl,by simp⟩
 ·have keep:∀b o,b≠x->c.get? b=some o->
    ((c.push {cls:=.type "traceback",dict:=none,data:=.fields ([head,.ref L,.none,rawInt L,.none]++(if d.isEmpty then List.replicate 6 Value.none else d)).toArray}).update x (Obj.mapFields (·.setIfInBounds 1 (Value.ref c.objs.size)))).get? b=some o:=fun b o p hb=>by
   rw[AM _ _ (Ne.symm p)];exact Ac _ hb
  refine⟨fun b o hb z _ q=>keep b o z ((i.2.1 b q).trans hb),fun b o hb q=>?_,?_⟩
  ·obtain⟨D,F⟩:=i.2.2 b o hb
   exact⟨D,keep b _ (fun e=>f (e▸q)) F⟩
  ·rw[AO,Bi]
   show s⁻¹<=c.objs.size+1;omega
def Hi{base:Heap}{env w:Env}{outer:List Env}{L x:Addr}{C:Value}{T:Option Addr}{Q:Unit->Shared->Prop}(hfr:A.frames=some (env::outer))(l:s.heap.FunFrames base (env::outer))(hf:env.frame=some L)(F:w.frame=env.frame)(he:Xc s.heap x C T)(h:∀h' T',s⁻¹<=T'->XcH h' x C T' (rawInt L)->gj ((env::outer).filterMap (·.frame)) x T s.heap h'->Q () {s with heap:=h'}):wpAny M A (noteFrame (.ref x) w) Q E s:=by
 obtain⟨G,vs,he,rfl,p,hd,hsz,h1⟩:=he;rw[Hh F];unfold noteFrame;simp only[hf];rcases h1 with ⟨rfl,h1⟩|⟨a,H,z,rfl,h1,D,i,j,r⟩
 ·refine Aa (AR he hd h1 ?_)
  rw[if_neg ξ];exact BM hfr l hf he p hd hsz h
 ·refine Aa (AR he hd h1 ?_)
  rw[if_pos (show(Value.ref a != Value.none)=true from by simp)];refine Aa (AR i j r ?_);rw[if_neg (show ¬((Value.none==rawInt L)=true) from by simp[rawInt])];refine Aa (wpAny_setField i j (Array.getElem?_eq_some_iff.mp r).1 ?_);have f:∀b,b≠a->(s.heap.update a (Obj.mapFields (·.setIfInBounds 3 Value.none))).get? b=s.heap.get? b:=fun b hb=>AM _ _ (Ne.symm hb);have v:∀b o,s.heap.get? b=some o->(∀vs,o.data≠.fields vs)->b≠a:=fun b o hb c q=>by
   rw[q,i] at hb;injection hb with hb;subst hb;exact c z j
  refine BM hfr (l.of_keeps fun b o hb c=>⟨o,(f b (v b o hb c)).trans hb,rfl⟩) hf ((f x (Ne.symm D)).trans he) p hd hsz fun h' T' hT' hx hk=>h h' T' (by rw[AO] at hT';exact hT') hx ?_;obtain⟨k1,k2,k3⟩:=hk;refine⟨fun b o hb y g d=>k1 b o ((f b fun e=>g (by rw[e])).trans hb) y (by simp) d,fun b o hb d=>?_,by rw[AO] at k3;exact k3⟩;obtain⟨_,o',u,c⟩:=l.mem d;rw[hb] at u;cases u;exact k2 b o ((f b (v b o hb c)).trans hb) d
def BN{x a:Addr}{C p:Value}{fr:Option Addr}{Q:Unit->Shared->Prop}(he:XcH s.heap x C a p)(h:∀h',XcH h' x C a (fr.elim .none fun f=>rawInt f)->(∀b,b≠a->h'.get? b=s.heap.get? b)->h'.objs.size=s⁻¹->Q () {s with heap:=h'}):wpAny M A (setFlight (.ref x) fr) Q E s:=by
 obtain⟨j,vs,q,r,he,hc,l,hd,hsz,h1,d,e,g,o⟩:=he;unfold setFlight;refine Aa (AR he hd h1 ?_);rw[if_pos (show(Value.ref a != Value.none)=true from by simp)];have c:=(Array.getElem?_eq_some_iff.mp o).1;refine wpAny_setField e g c (h _ ?_ (fun b hb=>AM _ _ (Ne.symm hb)) (AO _ _ _));have i:=Obj.data_mapFields g (·.setIfInBounds 3 (fr.elim Value.none fun f=>rawInt f));exact⟨j,vs,_,_,(AM _ _ d).trans he,hc,l,hd,hsz,h1,d,Heap.get?_update_self _ e (Obj.isFreed_of_fields i),i,by simp[c]⟩
def Hj{d:Type}{f:String}{x a:Addr}{C g:Value}{env:Env}{Q:d->Shared->Prop}(he:XcH s.heap x C a g)(h:∀h' e,XcH h' x C a e->(∀b,b≠a->h'.get? b=s.heap.get? b)->h'.objs.size=s⁻¹->E (.ref x) {s with heap:=h'}):wpAny M A (PySem.passOn f (.ref x) env:Sem d) Q E s:=by
 unfold PySem.passOn;obtain⟨i,vs,j,l,c,hc,o,hd,hsz,h1,p,r,u,v⟩:=id he;refine Aa (AR c hd h1 ?_);rw[if_neg (show ¬((Value.ref a==Value.none)=true) from by simp)];refine Aa (BN he fun h' q k z=>?_);exact wpAny_throw (h h' _ q k z)
def Hk{base:Heap}{env:Env}{outer:List Env}{L x a:Addr}{C y:Value}{Q:Unit->Shared->Prop}(hfr:A.frames=some (env::outer))(v:s.heap.FunFrames base (env::outer))(hf:env.frame=some L)(he:XcH s.heap x C a y)(h:∀h' T',(T'=a\/s⁻¹<=T')->Xc h' x C (some T')->gj ((env::outer).filterMap (·.frame)) x (some a) s.heap h'->Q () {s with heap:=h'}):wpAny M A (leaving env (.ref x)) Q E s:=by
 obtain⟨I,vs,J,F,g,rfl,G,hd,hsz,h1,H,p,r,w⟩:=id he;unfold leaving noteFrame;simp only[hf];refine Aa (Aa (AR g hd h1 ?_));rw[if_pos (show(Value.ref a != Value.none)=true from by simp)];refine Aa (AR p r w ?_);have u:∀b o,s.heap.get? b=some o->(∀vs,o.data≠.fields vs)->b≠a:=fun b o hb c q=>by
  rw[q,p] at hb;injection hb with hb;subst hb;exact c F r
 by_cases j:(y==rawInt L)=true
 ·rw[if_pos j]
  refine Ad (BN he fun h' q k z=>h h' a (.inl rfl) q.xc ⟨fun b o hb _ d _=>(k b fun e=>d (by rw[e])).trans hb,fun b o hb f=>?_,ω⟩);obtain⟨_,o',i,c⟩:=v.mem f;rw[hb] at i;cases i;exact⟨o.slots,(k b (u b o hb c)).trans hb⟩
 ·rw[if_neg j]
  refine Aa (wpAny_setField p r (Array.getElem?_eq_some_iff.mp w).1 ?_);have l:∀b,b≠a->(s.heap.update a (Obj.mapFields (·.setIfInBounds 3 Value.none))).get? b=s.heap.get? b:=fun b hb=>AM _ _ (Ne.symm hb);refine lR hfr (v.of_keeps fun b o hb c=>⟨o,(l b (u b o hb c)).trans hb,rfl⟩) hf ((l x (Ne.symm H)).trans g) G hd hsz fun h' T' hT' hx hk=>h h' T' (.inr (by rw[AO] at hT';exact hT')) hx ?_;obtain⟨k1,k2,k3⟩:=hk;refine⟨fun b o hb D d f=>k1 b o ((l b fun e=>d (by rw[e])).trans hb) D (by simp) f,fun b o hb f=>?_,by rw[AO] at k3;exact k3⟩;obtain⟨_,o',i,c⟩:=v.mem f;rw[hb] at i;cases i;exact k2 b o ((l b (u b o hb c)).trans hb) f
end
end L2
end
section
namespace L2
open PySem PySem.Spec PyProof.Rows
def jS(X:Cx)(C:Addr)(s₀:Shared)(H₀:Hp)(ex:List Addr)(E:XK):Ω:=fun e s'=>∃(x c:Addr)(T:Option Addr)(H':Hp),e=.ref x/\s'.os=s₀.os/\AllBare s'.gens/\Un (frs X.stack) ex H₀ H' s₀.heap s'.heap/\HOk X.prog X.w H' s'.heap/\
 H' x=none/\(∀b o,s₀.heap.get? b=some o->b∉ex->b≠x/\T≠some b)/\(∀a,T=some a->H' a=none)/\Xc s'.heap x (.ref c) T/\(∃m,s'.heap.Ns C m)/\H' C=none/\x≠C/\T≠some C/\E (.ref x) (some c) H'
abbrev dS(X:Cx)(scope:Scope)(N:List Str)(cl:List (Str×Addr))(C:Addr)(s₀:Shared)(H₀:Hp)(ex:List Addr)(E:XK):Cx:=(cxC X scope N cl C s₀ H₀ ex).wish (jS X C s₀ H₀ ex E)
def eK(X:Cx)(E:XK):Prop:=∀(aa:Ψ)(σ:St)(H':Hp)(s':Shared)(x C a:Addr)(c:Value),Inv X aa σ H' s'->XcH s'.heap x (.ref C) a c->H' x=none->H' a=none->(∀b o,X.s₀.heap.get? b=some o->b∉X.ex->b≠x/\b≠a)->E (.ref x) (some C) H'->X.xe (.ref x) s'
def BO{X:Cx}{scope:Scope}{N:List Str}{i:List (Str×Addr)}{C:Addr}{s₀:Shared}{H₀:Hp}{ex:List Addr}{E:XK}:b8 (cZ X.prog X.w) (dS X scope N i C s₀ H₀ ex E) E:=by
 rintro aa σ H1 f e r I ⟨x,y,T,H',rfl,os,c,un,g,s,j,h,hx,u⟩;have I1:Inv (cxC X scope N i C s₀ H₀ ex) aa σ H1 f:=I.unwish;have I2:Inv (cxC X scope N i C s₀ H₀ ex) aa σ H' r:=I1.call' (ch:=[]) os un g c (fun b z=>absurd z (by simp));obtain⟨A,⟨l,D,F,p,_⟩,_⟩:=I1.loc;obtain⟨m2,v,_⟩:=I2.loc;refine⟨x,y,T,H',rfl,I2.os,I2.bare,I2.base,I2.hok,s,fun b o q hb=>?_,fun a e=>(h a e).1,hx,⟨m2,v⟩,I2.free,fun z=>?_,fun z=>?_,u⟩
 ·obtain⟨o',e⟩:=I1.base.there b o q hb
  exact⟨fun z=>(by rw[z,j] at e;cases e),fun z=>(by rw[(h b z).2] at e;cases e)⟩
 ·have d:f.heap.get? C=some l:=p
  rw[<-z,j] at d;cases d
 ·have d:f.heap.get? C=some l:=p
  rw[(h C z).2] at d;cases d
def Hl{X:Cx}{E:XK}{use:Option (Value->Sem Unit)}{R:Ω}{D:Addr}{aa:Ψ}{σ:St}{H₀:Hp}{a:Shared}{fp:List Addr}{scope:Scope}{cl:List (Str×Addr)}(y:X.stack=X.env::X.outer)(bM:X.env.frame=some X.env.locals)(dB:eK X E)(I3:Inv X aa σ H₀ a)(I:∀b∈fp,(b∈X.ex\/X.s₀⁻¹<=b)/\b≠X.env.locals/\(∀x c,X.env.cells.lookup x=some c->c≠b)/\∀p∈X.pn++aa,p.1≠b)(C:∀b∈frs X.stack,b≠a⁻¹)(vV:∀b∈fp,b∉frs X.stack):∀e s',jS X a⁻¹ a H₀ fp E e s'->wpAny (model X.prog X.w) X.A (noteFrame e (compEnvC scope cl a⁻¹ X.env)) (fun _ H=>compPost (model X.prog X.w) X.A X.xe use R (.ref D) a⁻¹ (.error e) H) (fun x H=>compPost (model X.prog X.w) X.A X.xe use R (.ref D) a⁻¹ (.error x) H) s':=by
 rintro e s' ⟨x,Cc,T,H',rfl,os,f,un,g,O,l,hT,hx,⟨m,jR⟩,uI,P,pR,hE⟩;have W:s'.os=a.os:=os;have Is:Inv X aa σ H' s':=I3.call' W un g f I;have k6:=Is.stkFree;have Y:=Is.ok.frames;have Z:=Is.stack;rw[y] at Y Z;refine Hi (env:=X.env) (outer:=X.outer) Y Z bM rfl hx fun h5 M h ua hk=>?_;have hk':gj (frs X.stack) x T s'.heap h5:=by rw[y];exact hk
 obtain⟨o,es,ep,Q,r⟩:=jR;have qg:=Ah Q;refine⟨m,⟨o,es,ep,hk'.1 _ o Q (Ne.symm P) pR (fun z=>C _ z rfl),r⟩,fun h6 F pU hcl=>?_⟩;have iP:XcH h6 x (.ref Cc) M (rawInt X.env.locals):=by
  obtain⟨oe,vs,oT,ts,a1,a2,a3,a4,a5,a6,a7,a8,a9,qe⟩:=ua;exact⟨oe,vs,oT,ts,(F.2 x P).trans a1,a2,a3,a4,a5,a6,a7,(F.2 M (Nat.ne_of_gt (Ay qg h))).trans a8,a9,qe⟩
 refine Hj iP fun i fl pZ N z7=>?_;have L:∀b u,s'.heap.get? b=some u->b≠x->T≠some b->b≠a⁻¹->b∉frs X.stack->i.get? b=some u:=fun b u q n1 n2 G n4=>
  (N b (Al (Ay (Ah q) h))).trans ((F.2 b G).trans (hk'.1 b u q n1 n2 n4))
 have s:∀b u,s'.heap.get? b=some u->b∈frs X.stack->∃j,i.get? b=some {u with slots:=j}:=fun b u q hb=>by
  obtain⟨j,e⟩:=hk'.2.1 b u q hb;exact⟨j,(N b (Al (Ay (Ah q) h))).trans ((F.2 b (C b hb)).trans e)⟩
 have G:∀b u,a.heap.get? b=some u->b≠a⁻¹:=fun b u q=>Al (Ah q);have kW:HOk X.prog X.w H' i:=by
  intro b u e;refine(g b u e).stay (fun c v hc q=>L c v q ?_ ?_ ?_ ?_) (fun _ q=>q) fun _ _ q=>q
  all_goals
   have d:H' c≠none:=by
    rcases hc with z|z
    ·rw[z,e];simp
    ·rw[z];simp
  ·exact fun z=>d (z▸O)
  ·exact fun z=>d (hT c z)
  ·exact fun z=>d (z▸uI)
  ·exact fun z=>d (k6 c z)
 have I7:Inv X aa σ H' {s' with heap:=i}:=I3.call' (s':={s' with heap:=i}) W (ch:=fp) ⟨fun b u q n hb hx=>?_,fun b u q n hb hx=>?_,un.free,fun b u q hx=>?_,un.tups,un.frzs,un.tbls⟩ kW f I
 ·refine dB aa σ H' _ x Cc M fl I7 pZ O (g.fresh h) (fun b u q hb=>?_) hE
  obtain⟨S,U⟩:=I3.base.there b u q hb;have nF:b∉fp:=fun z=>by
   rcases(I b z).1 with w|w
   ·exact hb w
   ·exact absurd (Ah q) (Nat.not_lt.mpr w)
  obtain⟨v,qv⟩:=un.there b S U nF;exact⟨(l b S U nF).1,Al (Ay (Ah qv) h)⟩
 ·exact L b u (un.keep b u q n hb hx) (l b u q hx).1 (l b u q hx).2 (G b u q) hb
 ·obtain⟨j,e⟩:=un.slot b u q n hb hx
  obtain⟨dF,J⟩:=s b _ e hb;exact⟨dF,J⟩
 ·obtain⟨v,e⟩:=un.there b u q hx
  by_cases hb:b∈frs X.stack
  ·obtain⟨j,J⟩:=s b v e hb
   exact⟨_,J⟩
  ·exact⟨v,L b v e (l b u q hx).1 (l b u q hx).2 (G b u q) hb⟩
section
variable{X:Cx}{scope:Scope}{N':List Str}{ap:List (Option Nat)}{tg iter aI:Expr}{aD:List Expr}{wi:TI}{g:TG}{tc:TT}{te:TE}{pos:Pos}
def BP{E:XK}{use:Option (Value->Sem Unit)}{R:Ω}{pp:Pos}(hc:X.calm=true)(hk:scope.kind=.function)(ay:∀y∈scope.names,y.2≠.cell)(av:∀y∈scope.names,y.2=.local->scope.names.lookup y.1=some .local)(hfr:∀y∈scope.names,y.2=.free->X.env.kindOf y.1=some .cell\/X.env.kindOf y.1=some .free)(aF:hF X.N N' ap scope)(hi:PI X tg iter wi)(hg:∀cl C s₀ H₀ ex,PG (dS X scope N' cl C s₀ H₀ ex E) tg g)(ht:∀cl C s₀ H₀ ex,dh (dS X scope N' cl C s₀ H₀ ex E) aD tc)(he:∀cl C s₀ H₀ ex,PE (dS X scope N' cl C s₀ H₀ ex E) aI te)(hs:∀x,Be iter X.env x=pure x){aa:Ψ}{s:Shared}{σ:St}{H:Hp}{Q:VK}(I:Inv X aa σ H s)(h:er wi ap g tc te σ H Q)(hst:X.stack=X.env::X.outer)(bM:X.env.frame=some X.env.locals)(dB:eK X E)(fin:∀(D C:Addr)(H':Hp)(P:Shared)(f:Flow),Left X aa σ H' P C->Q (.ref D) H'->compPost (model X.prog X.w) X.A X.xe use R (.ref D) C (.ok f) P):wpAny (model X.prog X.w) X.A (comprehension (.ListComp aI [⟨tg,iter,aD,0⟩] scope pos) scope X.env pp (newList []) (firstAsync [⟨tg,iter,aD,0⟩]) (firstIter [⟨tg,iter,aD,0⟩] X.env) use) R X.xe s:=by
 have hcl:∀y∈scope.names,y.2=.free->∃c,X.env.cells.lookup y.1=some c:=fun y hy e=>I.ok.has y.1 (hfr y hy e);refine wpAny_comprehension_free (use:=use) rfl hs (rx hcl) hk av ?_;refine bd (hi aa s σ H _ I h) fun xv s1 h1=>bd h1 fun jr O h2=>?_;obtain⟨it,fp,tn,J,H2,e,I2,T,a_,f2,q⟩:=h2;subst e;have c9:H2 O⁻¹=none:=I2.hok.fresh (Ag _);obtain⟨W,⟨m0,w0⟩,turn⟩:=q O⁻¹ c9;refine AS (wpAny_newFunctionEnv ay (by intro y hy;simp at hy) (fun al aJ bb=>?_) hk);dsimp only at aJ bb ⊢;generalize hD:O⁻¹=D at *;obtain⟨l,e3⟩:∃l:Shared,l={O with heap:=O.heap.push {cls:=.type "list",dict:=none,data:=.seq ([]:List Value).toArray}}:=⟨_,rfl⟩;have h3:l.heap=O.heap.push {cls:=.type "list",dict:=none,data:=.seq ([]:List Value).toArray}:=by rw[e3]
 rw[<-h3] at aJ bb ⊢;have ah:l⁻¹=D+1:=by rw[h3,Bi,hD]
 have I3:Inv X aa σ (upd H2 D (.lst [])) l:=by
  rw[e3,<-hD];exact I2.lnew (t':=O.toks) (ys:=[]) .nil (AW _)
 obtain⟨Xc,F⟩:∃Xc,Xc=cxC X scope N' (clOf X.env.cells scope.names []) l⁻¹ l (upd H2 D (.lst [])) fp:=⟨_,rfl⟩;have gk:PG (Xc.wish (jS X l⁻¹ l (upd H2 D (.lst [])) fp E)) tg g:=by rw[F];exact hg _ _ _ _ _
 have ht':dh (Xc.wish (jS X l⁻¹ l (upd H2 D (.lst [])) fp E)) aD tc:=by rw[F];exact ht _ _ _ _ _
 have he':PE (Xc.wish (jS X l⁻¹ l (upd H2 D (.lst [])) fp E)) aI te:=by rw[F];exact he _ _ _ _ _
 have xP:Xc.prog=X.prog:=by rw[F];rfl
 have xw:Xc.w=X.w:=by rw[F];rfl
 have xK:Xc.K=X.K:=by rw[F];rfl
 have xA:Xc.A=X.A:=by rw[F];rfl
 have xc:Xc.calm=true:=by rw[F];exact hc
 have xe:Xc.env=compEnvC scope (clOf X.env.cells scope.names []) l⁻¹ X.env:=by rw[F];rfl
 have xE:Xc.xe=fun _ _=>False:=by rw[F];rfl
 have G:∀x c,(clOf X.env.cells scope.names []).lookup x=some c->X.env.cells.lookup x=some c:=fun x c e=>nh hcl (fun p hp=>absurd hp (by simp)) e;have hfd:∀b∈fp,b≠D/\b<D:=fun b hb=>by
  obtain⟨ob,eb,_⟩:=T.obj 0 _ a_ b hb;have:=Ah eb;rw[hD] at this;exact⟨Al this,this⟩
 have hfs:∀b∈frs X.stack,b<D:=fun b hb=>by
  obtain⟨_,ob,eb,_⟩:=I2.stack.mem hb;have:=Ah eb;rw[hD] at this;exact this
 have L:∀b o,l.heap.get? b=some o->al.get? b=some o:=fun b o e=>by
  have hb:b≠l⁻¹:=Al (Ah e);exact(bb.2 b hb).trans (Ac _ e)
 have hCf:(upd H2 D (.lst [])) l⁻¹=none:=I3.hok.fresh (Ag _);have Ic:Inv Xc aa (fq ap σ) (upd H2 D (.lst [])) {l with heap:=al}:=by
  have okc:Xc.Ok:=by
   rw[F];refine⟨I.ok.mod,hk,I.ok.glob,I.ok.blt,Ag _,fun x y c a b=>I.ok.inj x y c (G x c a) (G y c b),fun x hx=>?_,(fun x c a=>absurd a Ax),I.ok.hd,I.ok.frames,.inl rfl,fun b hb=>⟨?_,fun x c e=>?_⟩,fun b o e=>?_,?_,fun b o e z=>?_,fun b hb z=>?_,?_,fun b hb=>?_⟩
   ·have eB:(relabel scope X.env).names.lookup x=some .cell\/(relabel scope X.env).names.lookup x=some .free:=hx
    have key:∃U,scope.names.lookup x=some U/\(U=.free\/U=.cell):=by
     rcases eB with q|q
     ·obtain⟨U,e1,e2⟩:=iJ q
      rcases e2 with e2|⟨e2,_⟩
      ·exact⟨U,e1,.inr e2.symm⟩
      ·exact⟨U,e1,.inl e2⟩
     ·obtain⟨U,e1,e2⟩:=iJ q
      rcases e2 with e2|⟨e2,_⟩
      ·exact⟨U,e1,.inl e2.symm⟩
      ·exact⟨U,e1,.inl e2⟩
    obtain⟨U,e1,e2⟩:=key;have hm:=AV e1;rcases e2 with rfl|rfl
    ·obtain⟨c,eG⟩:=g_ (cells:=X.env.cells) (acc:=[]) (.inl hm)
     exact zu eG
    ·exact absurd rfl (ay _ hm)
   ·show b≠l⁻¹
    exact Al (by rw[ah];exact AF (hfd b hb).2)
   ·exact(f2 b hb).2.2.2.2.1 x c (G x c e)
   ·exact I3.bs b o e
   ·exact AA I.ok.bsz I3.sz
   ·obtain⟨f,_,_,fx,_,_⟩:=f2 b z
    rcases fx with fx|fx
    ·exact I.ok.noex b o e fx
    ·have:=Ay (Ah e) I.ok.bsz
     omega
   ·rcases List.mem_cons.mp (I2.stkSub b z) with r|r
    ·exact(f2 b hb).2.1 r
    ·exact(f2 b hb).2.2.1 r
   ·exact I3.stack
   ·exact I3.stkFree b hb
  refine⟨okc,(by rw[F];rfl),I3.bare,?_,?_,fun x c e=>?_,?_,fun x c e=>?_,fun p hp=>?_,?_,?_⟩
  ·rw[F]
   exact Un.kept L
  ·rw[xe]
   refine⟨_,aJ,fun i x v e1 e2 e3=>?_⟩;obtain⟨c1,c2⟩:=aF;unfold fq at e2;rw[Ar] at e2;cases e4:ap[i]? with
   |none=>rw[e4] at e2;cases e2
   |some cc=>
    rw[e4] at e2;cases cc with
    |none=>cases e2
    |some j=>
     obtain⟨y,d1,d2,d3⟩:=c2 i j e4;have bV:N'[i]?=some x:=by rw[F] at e1;exact e1
     rw[d1] at bV;have iN:y=x:=As bV;subst iN;have e5:σ[j]?=some (some v):=by
      simp only[Option.map_some,Option.some.injEq] at e2;cases e6:σ[j]? with
      |none=>rw[e6] at e2;cases e2
      |some ov=>rw[e6] at e2;simp only[Option.getD_some] at e2;rw[e2]
     have hm:=AV d3;have jy:ij X.env.scope y:=by
      rcases hfr _ hm rfl with q|q
      ·exact .inr (.inl q)
      ·exact .inr (.inr q)
     obtain⟨m,_,hl⟩:=I3.loc;obtain⟨u,ru,lk⟩:=hl j y v d2 e5 jy;refine⟨u,ru,?_⟩;have jw:∃c,X.env.cells.lookup y=some c/\l.heap.IsCell c (some u):=by
      rcases lk with ⟨k1,_⟩|⟨_,c,k2,k3⟩
      ·rcases hfr _ hm rfl with q|q
       ·rw[k1] at q;cases q
       ·rw[k1] at q;cases q
      ·exact⟨c,k2,k3⟩
     obtain⟨c,k2,k3⟩:=jw;obtain⟨d,hd'⟩:=g_ (cells:=X.env.cells) (acc:=[]) (.inl hm);obtain⟨d',aW⟩:=zu hd';have:c=d':=by
      have:=G y d' aW;rw[k2] at this;exact As this
     subst this;refine .inr ⟨?_,c,aW,k3.keeps L⟩;have rl:=kP (scope:=scope) (env:=X.env) (x:=y) (names:=scope.names) (.inl d3);rcases rl with q|q
     ·exact .inr q
     ·exact .inl q
  ·rw[xe] at e
   obtain⟨v,k3⟩:=I3.cell x c (G x c e);exact⟨v,k3.keeps L⟩
  ·rw[xe];exact hCf
  ·rw[xe] at e
   exact I3.freeC x c (G x c e)
  ·have bz:p∈X.pn++aa:=by rw[F] at hp;exact hp
   obtain⟨a1,a2,a3,a4,a5⟩:=I3.pin p bz;refine⟨L _ _ a1,a2,?_,?_,a5⟩
   ·rw[xe]
    show p.1≠l⁻¹;exact Al (Ah a1)
   ·rw[F]
    intro z;rcases List.mem_cons.mp (I3.stkSub p.1 z) with r|r
    ·exact a3 r
    ·exact a4 r
  ·rw[xP,xw]
   exact I3.hok.kept L
  ·unfold fq
   rw[Ab,aF.1,F]
   rfl
 have leave:∀{M:St}{H':Hp}{P:Shared}{h':Heap},Inv Xc aa M H' P->A4 l⁻¹ P.heap h'->Inv X aa σ H' {P with heap:=h'}:=fun{M H' P h'} I4 ax=>by
  have Y:∀b o,O.heap.get? b=some o->b≠D/\b≠l⁻¹:=fun b o e=>by
   have hb:=Ah e;rw[hD] at hb;exact⟨Al hb,Al (by rw[ah];exact AF hb)⟩
  have Z:∀b o,O.heap.get? b=some o->l.heap.get? b=some o:=fun b o e=>by rw[h3];exact Ac _ e
  have base:Un (frs X.stack) fp (upd H2 D (.lst [])) H' l.heap P.heap:=by
   have:=I4.base;rw[F] at this;exact this
  have hCn:H' l⁻¹=none:=by
   have:=I4.free;rw[xe] at this;exact this
  have os4:P.os=O.os:=by
   have:=I4.os;rw[F] at this;rw[this];show l.os=O.os;rw[e3]
  refine I2.call' (s':={P with heap:=h'}) (ch:=fp) os4 ⟨fun b o q n hb hx=>?_,fun b o q n hb hx=>?_,fun b o q n hx=>?_,fun b o q hx=>?_,fun b xs q=>?_,fun b o u q=>?_,fun b ps q=>?_⟩ ?_ I4.bare fun b hb=>?_
  ·obtain⟨n1,n2⟩:=Y b o q
   exact(ax.2 b n2).trans (base.keep b o (Z b o q) (by rw[zi n1];exact n) hb hx)
  ·obtain⟨n1,n2⟩:=Y b o q
   obtain⟨sl,e⟩:=base.slot b o (Z b o q) (by rw[zi n1];exact n) hb hx;exact⟨sl,(ax.2 b n2).trans e⟩
  ·obtain⟨n1,n2⟩:=Y b o q
   exact base.free b o (Z b o q) (by rw[zi n1];exact n) hx
  ·obtain⟨n1,n2⟩:=Y b o q
   obtain⟨o',e⟩:=base.there b o (Z b o q) hx;exact⟨o',(ax.2 b n2).trans e⟩
  ·exact base.tups b xs (by rw[zi (zj q c9)];exact q)
  ·exact base.frzs b o u (by rw[zi (zj q c9)];exact q)
  ·exact base.tbls b ps (by rw[zi (zj q c9)];exact q)
  ·intro b u e
   have dH:=I4.hok b u e;rw[xP,xw] at dH;refine dH.stay (fun c v hc q=>(ax.2 c ?_).trans q) (fun _ q=>q) fun _ _ q=>q;rintro rfl;rcases hc with z|z
   ·rw[<-z,hCn] at e;cases e
   ·rw[hCn] at z;cases z
  ·obtain⟨f0,f1,f3,f4,f5,f6⟩:=f2 b hb
   exact⟨f4,f1,f5,f6⟩
 have S:∀{H':Hp},(∀b∈fp,H' b=none)->∀b∈fp,bD Xc aa H' b:=fun{H'} hn b hb=>by
  obtain⟨f0,f1,f3,f4,f5,f6⟩:=f2 b hb;refine⟨hn b hb,?_,?_,.inl (by rw[F];exact hb),fun x c e=>?_,fun p hp=>?_⟩
  ·rw[xe]
   show b≠l⁻¹;exact Al (by rw[ah];exact AF (hfd b hb).2)
  ·rw[F]
   intro z;rcases List.mem_cons.mp (I2.stkSub b z) with r|r
   ·exact f1 r
   ·exact f3 r
  ·rw[xe] at e
   exact f5 x c (G x c e)
  ·rw[F] at hp
   exact f6 p hp
 subst F;have bad:∀e s',jS X l⁻¹ l (upd H2 D (.lst [])) fp E e s'->wpAny (model X.prog X.w) X.A (noteFrame e (compEnvC scope (clOf X.env.cells scope.names []) l⁻¹ X.env)) (fun _ bS=>compPost (model X.prog X.w) X.A X.xe use R (.ref D) l⁻¹ (.error e) bS) (fun x bS=>compPost (model X.prog X.w) X.A X.xe use R (.ref D) l⁻¹ (.error x) bS) s':=
  Hl hst bM dB I3 (fun b hb=>by obtain⟨f0,f1,f3,f4,f5,f6⟩:=f2 b hb;exact⟨f4,f1,f5,f6⟩) (fun b hb=>by obtain⟨_,ob,eb,_⟩:=I3.stack.mem hb;exact Al (Ah eb))
   (fun b hb z=>by
    obtain⟨f0,f1,f3,f4,f5,f6⟩:=f2 b hb;rcases List.mem_cons.mp (I2.stkSub b z) with r|r
    ·exact f1 r
    ·exact f3 r)
 have loop:∀n s',(∃i M H',Inv (cxC X scope N' (clOf X.env.cells scope.names []) l⁻¹ l (upd H2 D (.lst [])) fp) aa M H' s'/\tn i s'.heap/\(∀b∈fp,H' b=none)/\W i n M H')->
   codeAny (model X.prog X.w) X.A (.compLoop (.ListComp aI [⟨tg,iter,aD,0⟩] scope pos) 0 (.ref it) (.ref D) (compEnvC scope (clOf X.env.cells scope.names []) l⁻¹ X.env)) (compPost (model X.prog X.w) X.A X.xe use R (.ref D) l⁻¹) s':=by
  intro n0 oj jH;refine codeAny_loop rfl (fun n s'=>∃i M H',Inv (cxC X scope N' (clOf X.env.cells scope.names []) l⁻¹ l (upd H2 D (.lst [])) fp) aa M H' s'/\tn i s'.heap/\(∀b∈fp,H' b=none)/\W i n M H') (fun n s' hI=>?_) n0 jH;obtain⟨i,M,H',I',af,eI,w'⟩:=hI;show wpAny _ X.A ((compTurn (.ListComp aI [⟨tg,iter,aD,0⟩] scope pos) 0 (.ref it) (.ref D) (compEnvC scope (clOf X.env.cells scope.names []) l⁻¹ X.env)).onRaise (fun x=>do noteFrame x (compEnvC scope (clOf X.env.cells scope.names []) l⁻¹ X.env);theTreesLotGoes x)) _ _ s';refine wpAny_noted ?_;rw[compTurn_list];refine Aa (wpAny_standAt (Aa ?_));rcases turn i n M H' w' with ⟨stop,qn⟩|⟨go,step⟩
  ·refine bd (T.done (cxC X scope N' (clOf X.env.cells scope.names []) l⁻¹ l (upd H2 D (.lst [])) fp) rfl rfl rfl hc i aa s' M H' _ I' (S eI) af stop) fun r P ⟨hr,I4⟩=>?_
   subst hr;refine Ad ?_;obtain⟨m,hn,_⟩:=id I4.loc;refine fin D _ H' P _ ⟨⟨m,hn⟩,I3.sz,fun e=>?_,fun x c e=>?_,fun p hp=>Al (Ah (I3.pin p hp).1),I4.free,fun h' ax=>leave I4 ax⟩ qn
   ·obtain⟨m3,kM,_⟩:=I3.loc
    obtain⟨o3,_,_,eU,_⟩:=kM;exact absurd e.symm (Al (Ah eU))
   ·obtain⟨v,hv⟩:=I3.cell x c e
    obtain⟨o3,eU,_⟩:=hv;exact Al (Ah eU)
  ·refine bd (T.item (cxC X scope N' (clOf X.env.cells scope.names []) l⁻¹ l (upd H2 D (.lst [])) fp) rfl rfl rfl hc i aa s' M H' _ I' (S eI) af go) fun r P ⟨u,hr,h4⟩=>?_
   subst hr;refine Aa (bd h4 fun _ s5 ⟨x,H5,I5,r5,y5,st5,fr5⟩=>?_);have I5':=I5.pinned (S fr5) (T.obj _ _ st5);refine Aa (Bb (gk _ s5 M H5 x u _ (I5'.wish _) r5 (step x H5 y5)) (fun _ s6 h6=>?_) fun e s' z=>bad e s' z);obtain⟨dA,H6,I6,q6⟩:=h6;have I6:=I6.unwish;refine Aa (Bb (ht' _ s6 dA H6 _ (I6.wish _) q6) (fun ok s7 h7=>?_) fun e s' z=>bad e s' z);obtain⟨H7,I7,q7⟩:=h7;have I7:=I7.unwish;have again:∀{dc:St}{H8:Hp}{s8:Shared}{m':Nat},Inv (cxC X scope N' (clOf X.env.cells scope.names []) l⁻¹ l (upd H2 D (.lst [])) fp) (aa++iy fp s5.heap) dc H8 s8->m'<n->W (i+1) m' dc H8->
     ∃m,m<n/\∃i M H',Inv (cxC X scope N' (clOf X.env.cells scope.names []) l⁻¹ l (upd H2 D (.lst [])) fp) aa M H' s8/\tn i s8.heap/\(∀b∈fp,H' b=none)/\W i m M H':=fun{dc H8 s8 m'} I8 hm w8=>by
    refine⟨m',hm,i+1,dc,H8,I8.unpinned,T.keep _ _ _ st5 fun b hb o e=>(I8.pin (b,o) (AB _ (AB _ (z0 hb e)))).1,fun b hb=>?_,w8⟩;obtain⟨o,e,d⟩:=T.obj _ _ st5 b hb;exact(I8.pin (b,o) (AB _ (AB _ (z0 hb e)))).2.1
   cases ok with
   |false=>
    obtain⟨m',hm,w7⟩:=q7;exact Ad ⟨rfl,again I7 hm w7⟩
   |true=>
    refine Aa (Aa (Bb (he' _ s7 dA H7 _ (I7.wish _) q7) (fun v s8 h8=>?_) fun e s' z=>bad e s' z));obtain⟨y,H8,I8,r8,ys,m',i5,jq,jo,w8⟩:=h8;have I8:=I8.unwish;refine Aa (Bb (gC (X:=cxC X scope N' (clOf X.env.cells scope.names []) l⁻¹ l (upd H2 D (.lst [])) fp) _ s8 dA H8 (.ref D) [y] (.ref D) [v] (fun _ H9=>H9=upd H8 D (.lst (ys++[y]))) I8 rfl (.cons r8 .nil) ⟨D,ys,y,rfl,rfl,i5,jq,rfl⟩) (fun _ s9 h9=>?_) fun _ _ z=>z.elim);obtain⟨_,H9,I9,_,e9⟩:=h9;subst e9;exact Ad (Ad ⟨rfl,again I9 jo w8⟩)
 have start:∃i M H',Inv (cxC X scope N' (clOf X.env.cells scope.names []) l⁻¹ l (upd H2 D (.lst [])) fp) aa M H' {l with heap:=al}/\tn i ({l with heap:=al}:Shared).heap/\(∀b∈fp,H' b=none)/\W i m0 M H':=by
  refine⟨0,fq ap σ,upd H2 D (.lst []),Ic,T.keep 0 _ _ a_ fun b hb o e=>L b o (by rw[h3];exact Ac _ e),fun b hb=>?_,w0⟩;rw[zi (hfd b hb).1];exact(f2 b hb).1
 have es:({O with heap:=al,toks:=O.toks+([]:List (Str×Value)).length}:Shared)={l with heap:=al}:=by rw[e3];rfl
 show codeAny (model X.prog X.w) X.A _ _ ({O with heap:=al,toks:=O.toks+([]:List (Str×Value)).length}:Shared);rw[es];refine codeAny_compStart_list (loop m0 _ start) (T.self _ 0 _ _ _ ?_ (loop m0 _ start));exact T.keep 0 _ _ a_ fun b hb o e=>L b o (by rw[h3];exact Ac _ e)
def Hm{E:XK}(hc:X.calm=true)(hk:scope.kind=.function)(d:∀y∈scope.names,y.2≠.cell)(j:∀y∈scope.names,y.2=.local->scope.names.lookup y.1=some .local)(hfr:∀y∈scope.names,y.2=.free->X.env.kindOf y.1=some .cell\/X.env.kindOf y.1=some .free)(l:hF X.N N' ap scope)(hi:PI X tg iter wi)(o:∀a C s₀ H₀ ex,PG (dS X scope N' a C s₀ H₀ ex E) tg g)(ht:∀a C s₀ H₀ ex,dh (dS X scope N' a C s₀ H₀ ex E) aD tc)(he:∀a C s₀ H₀ ex,PE (dS X scope N' a C s₀ H₀ ex E) aI te)(c:X.stack=X.env::X.outer)(p:X.env.frame=some X.env.locals)(r:eK X E)(hs:∀x,Be iter X.env x=pure x:=by intro _;rfl):PE X (.ListComp aI [⟨tg,iter,aD,0⟩] scope pos) (er wi ap g tc te):=by
 intro aa s σ H Q I h;rw[eval_ListComp];refine BP (use:=none) hc hk d j hfr l hi o ht he hs I h c p r fun D C H' u f L q=>?_;obtain⟨m,i⟩:=L.ns;exact⟨m,i,fun h' e=>⟨.ref D,H',L.back h' e,rfl,q⟩⟩
end
end L2
end
section
namespace L2
open PySem PySem.Spec PyProof.Rows
def BQ{P:Program}{w:World}{K:Ae}{mg:Str->Option Value}{base:Heap}{N:List Str}{j:Str}{scope:Scope}{f:Addr}{l:Value}{A:Around}{outer:List Env}{s:Shared}{H:Hp}{E:XK}
 :eK (bh (cZ P w) P w K mg base N j scope f l A outer s H E) E:=by
 intro aa σ H' s' x C a Q I hx r u d F;have v:s.heap.get? x=none:=by
  cases q:s.heap.get? x with
  |none=>rfl
  |some o=>exact absurd rfl (d x o q (fun z=>absurd (show x∈([]:List Addr) from z) (by simp))).1
 have has:s.heap.get? a=none:=by
  cases q:s.heap.get? a with
  |none=>rfl
  |some o=>exact absurd rfl (d a o q (fun z=>absurd (show a∈([]:List Addr) from z) (by simp))).2
 have y:∀c,some a=some c->H' c=none/\s.heap.get? c=none:=fun c e=>by cases e;exact⟨u,has⟩
 show wpAny (model P w) (A.deeper (envOfC j scope s⁻¹ f l)) (leaving (envOfC j scope s⁻¹ f l) (.ref x)) _ _ s';refine Hk I.ok.frames I.stack rfl hx fun h' T' hT' G hk=>?_;have hfr:=I.stkFree;have hsz:s⁻¹<=s'⁻¹:=I.sz;have O:∀b o,s.heap.get? b=some o->b≠x/\some a≠some b/\b≠s⁻¹:=fun b o e=>by
  have hb:=Ah e;exact⟨fun z=>(by rw[z,v] at e;cases e),fun z=>(by rw[(y b z).2] at e;cases e),Al hb⟩
 have D:∀b o o',s.heap.get? b=some o->s'.heap.get? b=some o'->b∉frs outer->h'.get? b=some o':=fun b o o' e g hb=>by
  obtain⟨n1,n2,J⟩:=O b o e;refine hk.1 b o' g n1 n2 fun hm=>?_;have L:b∈s⁻¹::frs outer:=hm;rcases List.mem_cons.mp L with z|z
  ·exact J z
  ·exact hb z
 have h:∀b o',s'.heap.get? b=some o'->b∈frs outer->∃p,h'.get? b=some {o' with slots:=p}:=fun b o' g hb=>hk.2.1 b o' g (show b∈s⁻¹::frs outer from An _ hb);have i:∀b:Addr,b∉(bh (cZ P w) P w K mg base N j scope f l A outer s H E).ex:=fun b z=>absurd (show b∈([]:List Addr) from z) (by simp);refine⟨x,C,some T',H',rfl,I.os,I.bare,⟨fun b o q n hb hx=>?_,fun b o q n hb hx=>?_,fun b o q n hx=>I.base.free b o q n (i b),fun b o q hx=>?_,I.base.tups,I.base.frzs,I.base.tbls⟩,vU I.hok hk r (fun a e=>(y a e).1) hfr,r,v,fun a e=>?_,G,F⟩
 ·exact D b o o q (I.base.keep b o q n hb (i b)) hb
 ·obtain⟨p,e⟩:=I.base.slot b o q n hb (i b)
  obtain⟨M,g⟩:=h b _ e hb;exact⟨M,g⟩
 ·obtain⟨o',e⟩:=I.base.there b o q (i b)
  by_cases hb:b∈frs outer
  ·obtain⟨p,g⟩:=h b o' e hb
   exact⟨_,g⟩
  ·exact⟨o',D b o o' q e hb⟩
 ·cases e
  rcases hT' with rfl|hT'
  ·exact⟨u,has⟩
  refine⟨I.hok.fresh hT',?_⟩;cases q:s.heap.get? T' with
  |none=>rfl
  |some o=>exact absurd (Ah q) (Nat.not_lt.mpr (AA hsz hT'))
section
variable{X:Cx}{scope:Scope}{tg iter aI:Expr}{aD:List Expr}{wi:TI}{g:TG}{tc:TT}{te:TE}{pos:Pos}
def Hn{E:XK}(N N':List Str)(ap:List (Option Nat))(d:eK X E)(hi:PI X tg iter wi)(e:∀a C s₀ H₀ ex,PG (dS X scope N' a C s₀ H₀ ex E) tg g)(ht:∀a C s₀ H₀ ex,dh (dS X scope N' a C s₀ H₀ ex E) aD tc)(he:∀a C s₀ H₀ ex,PE (dS X scope N' a C s₀ H₀ ex E) aI te)(hc:X.calm=true:=by rfl)(hk:scope.kind=.function:=by rfl)(f:∀y∈scope.names,y.2≠.cell:=by decide +kernel)(h:∀y∈scope.names,y.2=.local->scope.names.lookup y.1=some .local:=by decide +kernel)(hfr:∀y∈scope.names,y.2=.free->X.env.kindOf y.1=some .cell\/X.env.kindOf y.1=some .free)(i:X.N=N:=by rfl)(j:eC N N' ap scope=true:=by decide +kernel)(c:X.stack=X.env::X.outer:=by rfl)(l:X.env.frame=some X.env.locals:=by rfl)(hs:∀x,Be iter X.env x=pure x:=by intro _;rfl):PE X (.ListComp aI [⟨tg,iter,aD,0⟩] scope pos) (er wi ap g tc te):=
 Hm hc hk f h hfr (lj (by rw[i];exact j)) hi e ht he c l d hs
end
end L2
end
section
namespace L2
open PySem PySem.Spec PyProof.Rows
def Cl(P:Program)(w:World)(K:Ae)(mg:Str->Option Value)(base:Heap)(CX:ei)(x:Str)(ps:List Str)(k:Nat)(sp:Sp):Prop:=
 ∃(f:Addr)(fd:FuncData),PySem.W.keepIn K (.ref f)=true/\Binds K fd ps []/\mg x=some (.ref f)/\FnOk P w K mg base CX k f fd ps sp
section
variable{X:Cx}{CX:ei}{k n:Nat}{ps:List Str}{sp:Sp}{E:XK}{x:Str}{p pos:Pos}{e:Expr}{es:List Expr}{t:TA}
def cB(C:Cl X.prog X.w X.K X.mg X.base CX x ps k sp)(hr:Room n X.A)(c:Gl X x)(hx:b8 CX X E)(d:PA X (e::es) t)(g:k<=n:=by decide)(h:(x==("__debug__":Str))=false:=by decide)
  (he:starEach (e::es) X.env=(false,eval e X.env)::starEach es X.env:=by rfl) (a:(backTo pos (starEach es X.env)).any (·.1)=false:=by rfl):PE X (.Call (.Name x p) (e::es) [] pos) (jn sp [] E t):=by
 obtain⟨f,fd,hk,hb,hm,F⟩:=C;exact zx F (hr.mono g) c hm hk hb .nil hx d h he a
end
section
variable{P:Program}{w:World}{K:Ae}{mg:Str->Option Value}{base:Heap}{CX:ei}{k:Nat}{f:Addr}{fd:FuncData}{x:Str}{st:Stmt}{ps:List Str}{sp sq:Sp}
def FnOk.or(F:FnOk P w K mg base CX k f fd ps sp)(G:FnOk P w K mg base CX k f fd ps sq):FnOk P w K mg base CX k f fd ps (fun vs H Q E=>sp vs H Q E\/sq vs H Q E):=
 ⟨fun vs H Q E h=>h.elim (F.len vs H Q E) (G.len vs H Q E),fun A outer s H args us vs Q E hr he hb a h=>h.elim (F.run A outer s H args us vs Q E hr he hb a) (G.run A outer s H args us vs Q E hr he hb a)⟩
def dY(F:Fun K x x st f fd)(b:Binds K fd ps [])(m:mg x=some (.ref f))(G:FnOk P w K mg base CX k f fd ps sp):Cl P w K mg base CX x ps k sp:=⟨f,fd,F.kp,b,m,G⟩
structure Df(K:Ae)(x:Str)(st:Stmt)(f:Addr):Prop where
 ex:∃fd,Fun K x x st f fd
 a:PySem.W.nsIn K mainGlobals x=some (some (.ref f))
def v1{i:Value}{j g:Option Addr}{h:Array (Option Value)}{kV d e cdv ct:Value}(a:PySem.W.nsIn K mainGlobals x=some (some (.ref f)))(l:K.lookup f=some ⟨i,j,.func (PySem.W.fnOf x x (zbG st) (zM st) (zf st) .none kV d e g cdv ct),h⟩)(c:PySem.W.codeIn K cdv x=true)(k:PySem.W.keepIn K (.ref f)=true):Df K x st f:=⟨⟨_,DU l c k⟩,a⟩
structure Nn(K:Ae)(x:Str)(v:Option Value):Prop where
 e:PySem.W.nsIn K mainGlobals x=some v
abbrev BA(x:Str)(st:Stmt)(us:List Value)(r:List (Str×Value)):Prop:=∀(kV bx pm:Value)(an:Option Addr)(cdv ct:Value),bindArgs (PySem.W.fnOf x x (zbG st) (zM st) (zf st) .none kV bx pm an cdv ct) ⟨us,[]⟩=pure r
variable{h:Heap}(X:K.In h)(G:h.Ns mainGlobals mg)
include X G
theorem Nn.m{v:Value}(n:Nn K x (some v)):mg x=some v:=PySem.W.mg_of X G n.e
theorem Nn.n(n:Nn K x none):mg x=none:=PySem.W.mg_none_of X G n.e
theorem Df.m(D:Df K x st f):mg x=some (.ref f):=PySem.W.mg_of X G D.a
theorem Df.g1(D:Df K x st f)(p:Str)(hb:∀a,BA x st [a] [(p,a)]:=by exact fun _ _ _ _ _ _ _=>rfl):∃fd,Fun K x x st f fd/\Binds K fd [p] []/\mg x=some (.ref f):=by
 obtain⟨⟨fd,F⟩,a⟩:=D;refine⟨fd,F,F.binds fun _ _ _ _ _ _ us c=>?_,PySem.W.mg_of X G a⟩
 match us,c with
 |[a],_=>exact hb a _ _ _ _ _ _
theorem Df.g2(D:Df K x st f)(p q:Str)(hb:∀a b,BA x st [a,b] [(p,a),(q,b)]:=by exact fun _ _ _ _ _ _ _ _=>rfl):∃fd,Fun K x x st f fd/\Binds K fd [p,q] []/\mg x=some (.ref f):=by
 obtain⟨⟨fd,F⟩,a⟩:=D;refine⟨fd,F,F.binds fun _ _ _ _ _ _ us c=>?_,PySem.W.mg_of X G a⟩
 match us,c with
 |[a,b],_=>exact hb a b _ _ _ _ _ _
theorem Df.g3(D:Df K x st f)(p q r:Str)(hb:∀a b c,BA x st [a,b,c] [(p,a),(q,b),(r,c)]:=by exact fun _ _ _ _ _ _ _ _ _=>rfl):∃fd,Fun K x x st f fd/\Binds K fd [p,q,r] []/\mg x=some (.ref f):=by
 obtain⟨⟨fd,F⟩,a⟩:=D;refine⟨fd,F,F.binds fun _ _ _ _ _ _ us d=>?_,PySem.W.mg_of X G a⟩
 match us,d with
 |[a,b,c],_=>exact hb a b c _ _ _ _ _ _
theorem Df.g4(D:Df K x st f)(p q r s:Str)(hb:∀a b c d,BA x st [a,b,c,d] [(p,a),(q,b),(r,c),(s,d)]:=by exact fun _ _ _ _ _ _ _ _ _ _=>rfl):∃fd,Fun K x x st f fd/\Binds K fd [p,q,r,s] []/\mg x=some (.ref f):=by
 obtain⟨⟨fd,F⟩,a⟩:=D;refine⟨fd,F,F.binds fun _ _ _ _ _ _ us e=>?_,PySem.W.mg_of X G a⟩
 match us,e with
 |[a,b,c,d],_=>exact hb a b c d _ _ _ _ _ _
theorem Df.g5(D:Df K x st f)(p q r s u:Str)(hb:∀a b c d e,BA x st [a,b,c,d,e] [(p,a),(q,b),(r,c),(s,d),(u,e)]:=by exact fun _ _ _ _ _ _ _ _ _ _ _=>rfl):∃fd,Fun K x x st f fd/\Binds K fd [p,q,r,s,u] []/\mg x=some (.ref f):=by
 obtain⟨⟨fd,F⟩,a⟩:=D;refine⟨fd,F,F.binds fun _ _ _ _ _ _ us g=>?_,PySem.W.mg_of X G a⟩
 match us,g with
 |[a,b,c,d,e],_=>exact hb a b c d e _ _ _ _ _ _
omit X G
theorem Ho{C:Addr}(a:PySem.W.findIn K (.ref C) "__getattribute__"=some (some (.builtin "BaseException.__getattribute__")))(b:PySem.W.findIn K (.ref C) "__getattr__"=some none)(q:PySem.W.excIn K C jb "ValueError.__new__"=true)(c:PySem.W.findIn K (.ref C) "__class__"=some (some (.builtin "object.__class__")))(d:PySem.W.specialIn K (.builtin "object.__class__") "__get__"=some (some (.builtin "getset_descriptor.__get__")))(e:PySem.W.takesIn K (.builtin "object.__class__")=some true)(f:PySem.W.mroIn K C (.type "object")=some true)(g:PySem.W.mroIn K C (.type "BaseException")=some true):dq K C:=
 ⟨a,b,Hg q,c,d,e,f,g⟩
end
end L2
end
section
namespace K8
open K1 Tx
open PySem L2 STb
def dr(c:Nat):Bool:=decide (48<=c/\c<=57)
abbrev Hq:TE:=cV (fun x y H Q=>∃i j,x=.str i/\y=.str j/\Q (.bl (!(Builtin.Str.occurrences j i 0 j.length 1).isEmpty)) H) (aY 0) (tC (.str "0123456789"))
def l8(c:Nat):(!(Builtin.Str.occurrences ("0123456789":Str) ⟨#[c]⟩ 0 ("0123456789":Str).length 1).isEmpty)=dr c:=by
 rw[StrLaws.found_one];have e:("0123456789":Str).cps.toList=[48,49,50,51,52,53,54,55,56,57]:=δ
 rw[e];unfold dr;refine decide_eq_decide.mpr ?_;simp only[List.mem_cons,List.not_mem_nil,or_false];omega
def okN(m:Int)(x:Str):Bool:=decide ((1:Int)<=(x.length:Int))&&(decide ((x.length:Int)<=m)&&(x.cps.toList.all dr&&!(decide ((1:Int)<(x.length:Int))&&decide (x.cps.toList[0]?=some 48))))
def valN(x:Str):Int:=((PySem.NumText.digitsVal x.cps.toList:Nat):Int)
def v4{m:Int}{x:Str}(h:x.cps.toList.all dr=true)(h1:1<=x.length)(hm:(x.length:Int)<=m)(a:m<=100):intText? x=some (valN x):=by
 refine intText_digits (fun c hc=>?_) (fun e=>?_) ω
 ·have:=List.all_eq_true.mp h c hc
  exact of_decide_eq_true this
 ·have:x.cps.toList.length=x.length:=Af
  rw[e] at this;simp at this;omega
section
variable{P:Program}{w:World}{K:Ae}{mg:Str->Option Value}{base:Heap}{f fN:Addr}{fd:FuncData}
def Hr{H2:Hp}{D:Addr}{x:Str}{Q:VK}(h2:x.length<=100)(g:H2 D=none)(k:∀a,Same H2 a->a D=some (.lst ((x.cps.toList.map dr).map V.bl))->Q (.ref D) a):cw (jF x) (cm 0) bN Hq [none] H2 D Q:=by
 have hsz:x.cps.size=x.length:=rfl;refine tL (fun j σ ys a=>∃v:Option V,σ=[v]/\Same H2 a/\a D=some (.lst ys)/\ys=((x.cps.toList.map dr).take j).map V.bl) ?_ ?_ ?_
 ·exact⟨none,rfl,Same.new g,am,rfl⟩
 ·rintro j σ ys a c hx h hy ⟨v,rfl,f,d,rfl⟩
  have i:x.cps.toList[j]?=some c:=by simpa using hx
  have e:(x.cps.toList.map dr)[j]?=some (dr c):=by rw[Ar,i];rfl
  refine cb ?_;refine⟨_,rfl,_,_,rfl,rfl,?_⟩;rw[l8 c];exact bO (zd ω) h hy d ⟨_,rfl,f.then g,am,by rw[AN e,Au];rfl⟩
 ·rintro σ ys a ⟨v,rfl,f,d,rfl⟩
  rw[At (by simp)] at d;exact k a f d
abbrev v6:Stmt:=top 38
abbrev v7:Stmt:=top 37
abbrev v8:Stmt:=top 36
abbrev QX(K:Ae)(C:Addr):Prop:=PySem.W.excIn K C jb "ValueError.__new__"=true
def TR(fN:Addr)(H:Hp)(Q:VK)(E:XK)(b:Bool)(v:V):Prop:=(b=true/\∀H',Same H H'->Q v H')\/(b=false/\∀H',Same H H'->∀x,H' x=none->E (.ref x) (some fN) H')
def BR(fN:Addr):Sp:=fun vs H Q E=>∃x m,vs=[.str x,.int m]/\x.length<=100000/\m<=100/\TR fN H Q E (okN m x) (.int (valN x))
def Hs:zo ["figures","most"] ["figures","most"] (zf v6):=⟨rfl,rfl,rfl,δ,rfl,δ,δ⟩
def Ht{Z:Tok}(F:Fun K "read_number" "read_number" v6 f fd)(B:Bt mg)(mf:mg "FIGURES"=some (.str "0123456789" Z))(J:mg "NoNote"=some (.ref fN))(L:QX K fN):FnOk P w K mg base (cZ P w) 1 f fd ["figures","most"] (BR fN):=by
 refine F.ok1 Hs (fun vs H Q E h=>?_) (fun cdv A outer s H vs Q E hr h=>?_)
 ·obtain⟨x,m,rfl,_⟩:=h;rfl
 ·obtain⟨x,m,rfl,hz,hm,h⟩:=h
  have G:x.length<=sizeLine:=zd ω;refine⟨_,ze (zS (gQ (pB iC iC zh (zm kC rfl B.len cP (ae (pv 0) aq)) (pv 1))) (zg (lV (C:=fN) (EX:=E) rfl rfl J L (fun aa σ H' s' x I hx g hs l=>jP I hx g hs (fun a e=>nomatch e) l))) zt)
   (ze (zS (gQ (jj (zm (nq rfl) rfl B.all nV (ae (zz ["figures","most"] ["sign"] [none] (tH (pv 0)) (fun M C s₀ H₀ ex=>zn (i:=0) (cz ["sign"]) rfl (Or.inl rfl)) (fun M C s₀ H₀ ex=>zG)
    (fun M C s₀ H₀ ex=>gY Dg (pv 0) (gP rfl mf (v:=.str "0123456789") ⟨_,rfl⟩) (by with_unfolding_all rfl)) (hfr:=bP δ)) aq)))) (zg (lV (C:=fN) (EX:=E) rfl rfl J L (fun aa σ H' s' x I hx g hs l=>jP I hx g hs (fun a e=>nomatch e) l))) zt)
   (ze (zS (PW.pt (o_ (zq gU (zm kC rfl B.len cP (ae (pv 0) aq)) zh (au _)) (o9 (zq dI (cQ qu (pv 0) zh (fun _ _=>rfl)) pe_str (au _))))) (zg (lV (C:=fN) (EX:=E) rfl rfl J L (fun aa σ H' s' x I hx g hs l=>jP I hx g hs (fun a e=>nomatch e) l))) zt)
   (zg (zp (zw sk rfl B.int ul (ae (pv 0) aq)))))),?_⟩
  have r:∀{H1:Hp},Same H H1->okN m x=false->∀y,H1 y=none->E (.ref y) (some fN) H1:=fun S hb=>by
   rcases h with ⟨b,_⟩|⟨_,k⟩
   ·rw[hb] at b;cases b
   ·exact k _ S
  have p:okN m x=true->∀H',Same H H'->Q (.int (valN x)) H':=fun hb=>by
   rcases h with ⟨_,k⟩|⟨b,_⟩
   ·exact k
   ·rw[hb] at b;cases b
  have N:Same H H:=Same.refl _;refine⟨_,rfl,_,rfl,G,_,_,rfl,rfl,_,rfl,?_⟩
  by_cases h1:(1:Int)<=(x.length:Int)
  rotate_left
  ·rw[decide_eq_false h1]
   exact bg ⟨_,rfl,be (r N (by unfold okN;rw[decide_eq_false h1];rfl))⟩
  rw[decide_eq_true h1];refine be ⟨_,rfl,_,_,rfl,rfl,_,rfl,?_⟩
  by_cases h2:(x.length:Int)<=m
  rotate_left
  ·rw[decide_eq_false h2]
   exact be (r N (by unfold okN;rw[decide_eq_false h2,Bool.false_and,Bd]))
  rw[decide_eq_true h2];refine bg ⟨_,rfl,_,rfl,fun D T=>zA (Hr ω T fun H3 q U=>⟨D,_,rfl,SqL.of U,_,rfl,?_⟩)⟩;rw[List.all_map];cases h3:x.cps.toList.all dr with
  |false=>
   have d:x.cps.toList.all (id ∘ dr)=false:=h3;rw[d];exact be (r q (by unfold okN;rw[h3,Bool.false_and,Bd,Bd]))
  |true=>
   have d:x.cps.toList.all (id ∘ dr)=true:=h3;rw[d];have O:=v4 h3 ω h2 hm;refine bg ⟨_,rfl,_,rfl,G,_,_,rfl,rfl,_,rfl,?_⟩;refine bU (fun o=>?_) (fun o=>?_)
   ·have W:1<x.length:=by have:=of_decide_eq_true o;omega
    obtain⟨c,u⟩:∃c,x.cps.toList[0]?=some c:=⟨_,Ao (by simp[Str.length] at W ⊢;omega)⟩;refine⟨_,rfl,_,_,c,rfl,rfl,G,eN (j:=0) u,rfl,_,rfl,?_⟩;have X:decide (V.str ⟨#[c]⟩=V.str "0")=decide (c=48):=by
     refine decide_eq_decide.mpr ⟨fun z=>?_,fun z=>?_⟩
     ·injection z with z
      have Y:("0":Str)=⟨#[48]⟩:=δ
      rw[Y] at z;injection z with z
      simpa using z
     ·rw[z];decide +kernel
    rw[X]
    by_cases hc:c=48
    ·rw[decide_eq_true hc]
     exact be (r q (by unfold okN;rw[h3,u,hc,o,decide_eq_true h1,decide_eq_true h2];rfl))
    ·rw[decide_eq_false hc]
     exact bg ⟨_,rfl,_,_,rfl,O,ω,p (by unfold okN;rw[h3,u,o,decide_eq_true h1,decide_eq_true h2,decide_eq_false (fun z=>hc (As z))];rfl) _ q⟩
   ·exact bg ⟨_,rfl,_,_,rfl,O,ω,p (by unfold okN;rw[h3,(Bool.not_eq_true _).mp o,decide_eq_true h1,decide_eq_true h2];rfl) _ q⟩
end
end K8
end
section
namespace K8
open K1 Tx
open PySem L2 STb
section
variable{P:Program}{w:World}{K:Ae}{mg:Str->Option Value}{base:Heap}{f fN:Addr}{fd:FuncData}
def v9(fN:Addr):Sp:=fun vs H Q E=>∃x,vs=[.str x]/\x.length<=100000/\TR fN H Q E (okN 2 x) (.int (valN x))
def Hu:zo ["figures"] ["figures"] (zf v7):=⟨rfl,rfl,rfl,δ,rfl,δ,δ⟩
def Hv{c:Tok}(F:Fun K "read_point" "read_point" v7 f fd)(d:mg "MOST_FIGURES"=some (.int 2 c))(e:Cl P w K mg base (cZ P w) "read_number" ["figures","most"] 1 (BR fN)):FnOk P w K mg base (cZ P w) 2 f fd ["figures"] (v9 fN):=by
 refine F.ok1 Hu (fun vs H Q E h=>?_) (fun cdv A outer s H vs Q E hr h=>?_)
 ·obtain⟨x,rfl,_⟩:=h;rfl
 ·obtain⟨x,rfl,a,h⟩:=h
  refine⟨_,zg (zp (cB e hr rfl (lT (E:=E)) (ae (pv 0) (ae (gP rfl d (v:=.int 2) ⟨_,rfl⟩) aq)))),?_⟩;exact⟨_,rfl,x,2,rfl,a,ξ,h⟩
def zT(x:Str):Bool:=(Aw x "-").all (okN 2)
def zK(x:Str):List Int:=(Aw x "-").map valN
def Hw{H2:Hp}{L D:Addr}{ws:List Str}{Q:VK}{E:XK}(o:H2 L=some (.lst (ws.map V.str)))(p:ws.length<=100000)(hw:∀x∈ws,x.length<=100000)(g:H2 D=none)(k:(ws.all (okN 2)=true/\∀a,Same H2 a->a D=some (.lst ((ws.map valN).map V.int))->Q (.ref D) a)\/(ws.all (okN 2)=false/\∀a,Same H2 a->∀x,a x=none->E (.ref x) (some fN) a)):cw (du K L) (cm 0) bN (jn (v9 fN) [] E (zB (aY 0) bJ)) [none] H2 D Q:=by
 refine zR (xs:=ws.map V.str) (fun j σ ys a=>∃v:Option V,σ=[v]/\Same H2 a/\a D=some (.lst ys)/\ys=((ws.map valN).take j).map V.int/\(ws.take j).all (okN 2)=true) ?_ ?_ ?_ ?_
 ·exact⟨none,rfl,Same.new g,am,rfl,rfl⟩
 ·rintro j σ ys a ⟨v,rfl,c,d,rfl,_⟩
  exact SqL.of (c _ _ o)
 ·rintro j σ ys a x hx i hy ⟨v,rfl,c,d,rfl,f⟩
  rw[Ar] at hx;cases eq:ws[j]? with
  |none=>rw[eq] at hx;cases hx
  |some q=>
   rw[eq] at hx;obtain rfl:=As hx;have hq:=Az eq;have l:(ws.map valN)[j]?=some (valN q):=by rw[Ar,eq];rfl
   refine cb ⟨_,rfl,q,rfl,hw q hq,?_⟩;cases hb:okN 2 q with
   |true=>
    refine .inl ⟨rfl,fun h e=>bO (by rw[Ab];exact zd p) i hy (e _ _ d) ⟨_,rfl,(c.trans e).then g,am,by rw[AN l,Au];rfl,?_⟩⟩;rw[AN eq,List.all_append,f];simp[hb]
   |false=>
    refine .inr ⟨rfl,fun h e y hy=>?_⟩;rcases k with ⟨b,_⟩|⟨_,k⟩
    ·rw[List.all_eq_true.mp b q hq] at hb;cases hb
    ·exact k h (c.trans e) y hy
 ·rintro σ ys a ⟨v,rfl,c,d,rfl,f⟩
  rw[Ab,take_all] at f;rw[Ab,At (by rw[Ab];exact Ag _)] at d;rcases k with ⟨_,k⟩|⟨b,_⟩
  ·exact k a c d
  ·rw[f] at b;cases b
def v_(fN:Addr):Sp:=fun vs H Q E=>∃x,vs=[.str x]/\x.length<=99990/\(Aw x "-").length<=100000/\(∀z∈Aw x "-",z.length<=100000)/\
 ((zT x=true/\∀a H',Same H H'->Tp H' a (zK x)->Q (.ref a) H')\/(zT x=false/\∀H',Same H H'->∀x,H' x=none->E (.ref x) (some fN) H'))
def Hx:zo ["word"] ["word"] (zf v8):=⟨rfl,rfl,rfl,δ,rfl,δ,δ⟩
def Hy(F:Fun K "read_piece" "read_piece" v8 f fd)(B:Bt mg)(l:Cl P w K mg base (cZ P w) "read_point" ["figures"] 2 (v9 fN)):FnOk P w K mg base (cZ P w) 3 f fd ["word"] (v_ fN):=by
 refine F.ok1 Hx (fun vs H Q E h=>?_) (fun cdv A outer s H vs Q E hr h=>?_)
 ·obtain⟨x,rfl,_⟩:=h;rfl
 ·obtain⟨x,rfl,o,hs,hw,h⟩:=h
  refine⟨_,zg (zp (zw kE rfl B.tuple lm (ae (Hn (E:=E) ["word"] ["figures"] [none] BQ (zF (zW AG PySem.F.slot_str_split PySem.F.type_str_split iR (pv 0) (ae pe_str aq)))
   (fun c C s₀ H₀ ex=>zn (i:=0) (cz ["figures"]) rfl (Or.inl rfl)) (fun c C s₀ H₀ ex=>zG) (fun c C s₀ H₀ ex=>cB l hr rfl (BO (E:=E)) (ae (pv 0) aq)) (hfr:=bP δ)) aq))),?_⟩
  refine⟨_,rfl,rfl,_,_,rfl,rfl,ξ,zd ω,zd hs,fun S d=>⟨S,rfl,⟨_,SqL.of am⟩,fun D g=>?_⟩⟩;refine zA (Hw am hs hw g ?_);rcases h with ⟨b,k⟩|⟨b,k⟩
  ·refine .inl ⟨b,fun e a j=>⟨D,_,rfl,.inl ⟨SqL.of j,fun t ht=>?_⟩⟩⟩
   exact k t _ (((Same.new d).trans a).trans (Same.new ht)) am
  ·exact .inr ⟨b,fun e a=>k e ((Same.new d).trans a)⟩
end
end K8
end
section
namespace L2
open PySem PySem.Spec PyProof.Rows PySem.Builtin PySem.Builtin.Str
end L2
namespace Tx
open PySem L2
def wa(m:Nat):(fig (m:Int)).cps.toList=(Nat.toDigits 10 m).map Char.toNat:=PySem.W.KIN.signs_num m
end Tx
end
section
namespace Tx
open PySem PySem.Builtin.Str PyProof.Rows PySem.NumText
def wb{c:Nat}:∀{ws:List Str},ws≠[]->(∀t∈ws,c∉t.cps.toList)->(Str.join ⟨#[c]⟩ ws).cps.toList.count c+1=ws.length
 |[],h,_=>absurd rfl h
 |[w],_,h=>by
  rw[join_one,List.count_eq_zero_of_not_mem (h w Aj)]
  rfl
 |u::v::r,_,h=>by
  rw[c7,List.count_append,List.count_cons_self,List.count_eq_zero_of_not_mem (h u Aj)];have:=wb (c:=c) (ws:=v::r) (List.cons_ne_nil _ _) (fun t m=>h t (An _ m));rw[Ap] at this ⊢;rw[Ap];omega
def Hz(x:Str)(c:Nat):(Aw x ⟨#[c]⟩).length=x.cps.toList.count c+1:=by
 have:=wb (c:=c) (i_ x ⟨#[c]⟩) (StrLaws.split_free _ _);rw[StrLaws.join_split] at this;omega
def mem_join{c d:Nat}(a:c≠d):∀{ws:List Str},ws≠[]->c∈(Str.join ⟨#[d]⟩ ws).cps.toList->∃t∈ws,c∈t.cps.toList
 |[],h,_=>absurd rfl h
 |[w],_,h=>by rw[join_one] at h;exact⟨w,Aj,h⟩
 |u::v::r,_,h=>by
  rw[c7] at h;rcases List.mem_append.mp h with h|h
  ·exact⟨u,Aj,h⟩
  ·rcases List.mem_cons.mp h with h|h
   ·exact absurd h a
   ·obtain⟨t,m,q⟩:=mem_join a (List.cons_ne_nil _ _) h
    exact⟨t,An _ m,q⟩
def BS(ds:List Nat)(d:Nat):digitsVal (ds++[d])=digitsVal ds*10+(d-48):=by
 unfold digitsVal;rw[List.foldl_append]
 rfl
def snocInd{P:List Nat->Prop}(c:P [])(h1:∀l d,P l->P (l++[d]))(l:List Nat):P l:=by
 have:∀r:List Nat,P r.reverse:=fun r=>by
  induction r with
  |nil=>exact c
  |cons a r ih=>rw[List.reverse_cons];exact h1 _ _ ih
 have:=this l.reverse
 rwa [List.reverse_reverse] at this
def HA(ds:List Nat):(∀c∈ds,48<=c/\c<=57)->digitsVal ds<10 ^ ds.length:=by
 refine snocInd (P:=fun ds=>(∀c∈ds,48<=c/\c<=57)->digitsVal ds<10 ^ ds.length) (fun _=>ξ) (fun l d a h=>?_) ds;have h1:=a fun c hc=>h c (A9 _ hc);have h2:=h d (by simp);rw[BS,Aq,List.length_singleton,Nat.pow_succ];omega
def HB(ds:List Nat):ds≠[]->(∀c∈ds,48<=c/\c<=57)->(ds.length=1\/ds[0]?≠some 48)->(Nat.toDigits 10 (digitsVal ds)).map Char.toNat=ds/\(0<digitsVal ds\/ds=[48]):=by
 refine snocInd (P:=fun ds=>ds≠[]->(∀c∈ds,48<=c/\c<=57)->(ds.length=1\/ds[0]?≠some 48)->(Nat.toDigits 10 (digitsVal ds)).map Char.toNat=ds/\(0<digitsVal ds\/ds=[48])) (fun h=>absurd rfl h) (fun l d j _ h o=>?_) ds;have hd:=h d (by simp);have i:∀k:Nat,k<10->(Nat.digitChar k).toNat=k+48:=ξ
 rw[BS];cases hl:l with
 |nil=>
  show(Nat.toDigits 10 (0*10+(d-48))).map Char.toNat=[d]/\(0<0*10+(d-48)\/[d]=[48]);rw[Nat.zero_mul,Bl,Nat.toDigits_of_lt_base ω,List.map_singleton,i _ ω];refine⟨by rw[show d-48+48=d from ω],?_⟩
  by_cases e:d=48
  ·exact .inr (by rw[e])
  ·exact .inl ω
 |cons a r=>
  rw[<-hl];have g:l≠[]:=by rw[hl];exact List.cons_ne_nil _ _
  have f:l[0]?≠some 48:=by
   rcases o with z|z
   ·rw[hl] at z;simp at z
   ·rw[hl] at z ⊢;simpa using z
  obtain⟨e1,e2⟩:=j g (fun c hc=>h c (A9 _ hc)) (.inr f);have hp:0<digitsVal l:=by
   rcases e2 with z|z
   ·exact z
   ·rw[z] at f;exact absurd rfl f
  refine⟨?_,.inl ω⟩;have t:Nat.toDigits 10 (digitsVal l)++Nat.toDigits 10 (d-48)=Nat.toDigits 10 (10*digitsVal l+(d-48)):=Nat.toDigits_append_toDigits ξ hp ω;rw[show digitsVal l*10+(d-48)=10*digitsVal l+(d-48) from ω,<-t,Au,e1,Nat.toDigits_of_lt_base ω,List.map_singleton,i _ ω,show d-48+48=d from ω]
def BU{c:Nat}:∀{ws:List Str}{t:Str},t∈ws->t.length<=(Str.join ⟨#[c]⟩ ws).length
 |[],_,h=>nomatch h
 |[w],t,h=>by rw[List.mem_singleton.mp h,join_one];exact Ag _
 |u::v::r,t,h=>by
  have e:(Str.join ⟨#[c]⟩ (u::v::r)).length=u.length+(1+(Str.join ⟨#[c]⟩ (v::r)).length):=by
   have:=congrArg List.length (c7 (c:=c) u v r);rw[Aq,Ap,Af,Af,Af] at this;show(Str.join ⟨#[c]⟩ (u::v::r)).cps.size=u.cps.size+(1+(Str.join ⟨#[c]⟩ (v::r)).cps.size);omega
  rcases List.mem_cons.mp h with h|h
  ·rw[h];omega
  ·have:=BU (c:=c) h
   omega
def split_len{x t:Str}{c:Nat}(h:t∈Aw x ⟨#[c]⟩):t.length<=x.length:=by
 have:=BU (c:=c) h;rw[StrLaws.join_split] at this;exact this
abbrev bj(ws:List Str):Nat:=(ws.map (·.length)).sum
def BV{sep:Str}{ws:List Str}(hs:sep.length=1)(h:bj ws+ws.length<=100000):JoinOk sep ws=true/\(Txt.join sep ws).length<=bj ws+ws.length:=by
 constructor
 ·unfold JoinOk tooLong
  rw[StrLaws.joinTotal,hs,Nat.mul_one];have:(ws.map (·.length)).sum+ws.length<=sizeLine:=Bw h;simp only[Bool.not_eq_true',decide_eq_false_iff_not];omega
 ·rw[show Txt.join sep ws=Str.join sep ws from StrLaws.glued_eq_join _ _]
  have:=StrLaws.join_length_le sep ws;rw[hs] at this;show _<=(ws.map (·.length)).sum+_;omega
def BW{c:Nat}:∀{ws:List Str},ws≠[]->bj ws+ws.length=(Str.join ⟨#[c]⟩ ws).length+1
 |[],h=>absurd rfl h
 |[w],_=>by rw[join_one];simp[bj]
 |u::v::r,_=>by
  have e:(Str.join ⟨#[c]⟩ (u::v::r)).length=u.length+(1+(Str.join ⟨#[c]⟩ (v::r)).length):=by
   have:=congrArg List.length (c7 (c:=c) u v r);rw[Aq,Ap,Af,Af,Af] at this;show(Str.join ⟨#[c]⟩ (u::v::r)).cps.size=u.cps.size+(1+(Str.join ⟨#[c]⟩ (v::r)).cps.size);omega
  have a:=BW (c:=c) (ws:=v::r) (List.cons_ne_nil _ _);rw[e];unfold bj at a ⊢;rw[AT,List.sum_cons,Ap];omega
def oz(x:Str)(c:Nat):bj (Aw x ⟨#[c]⟩)+(Aw x ⟨#[c]⟩).length=x.length+1:=by
 rw[BW (c:=c) (i_ x _),StrLaws.join_split]
end Tx
end
section
namespace Tx
open PySem PySem.Builtin.Str PyProof.Rows PySem.NumText
abbrev sg(x:Str):List Nat:=x.cps.toList
abbrev bl(x:Str):Nat:=(sg x).count 32
def l9{x:Str}{i:Int}(h:0<=i/\i<=(x.length:Int)):sg (Txt.slice x none (some i))=(sg x).take i.toNat:=by
 rw[show Txt.slice x none (some i)=⟨((x.cps.toList.drop 0).take (i-0).toNat).toArray⟩ from StrLaws.sliceText_to ⟨h.1,by rw[Af];exact h.2⟩];show List.take _ (List.drop 0 _)=_;rw[List.drop_zero,Int.sub_zero]
def l_{x:Str}{i:Int}(h:0<=i):sg (Txt.slice x (some i) none)=(sg x).drop i.toNat:=by
 have a:x.cps.toList.length=x.length:=Af
 by_cases hi:i<=(x.length:Int)
 ·rw[slice_from_eq (i:=i) (b:=x.length) h hi rfl]
  show List.take _ (List.drop _ _)=_;refine At ?_;rw[List.length_drop,a];omega
 ·rw[slice_beyond (by omega:(x.length:Int)<=i)]
  have:(sg x).drop i.toNat=[]:=List.drop_eq_nil_of_le (by show x.cps.toList.length<=_;rw[a];omega);rw[this];rfl
def jc(x y:Str):sg (x++y)=sg x++sg y:=by
 show(x.cps++y.cps).toList=_;exact A7
def fU(x:Str):(sg x).length=x.length:=Af
def jV(x y:Str):Prop:=y.length<=2*x.length+2/\bl y<=bl x+1
def HC(c:Nat):[c].count 32<=1:=by
 have:=List.count_le_length (a:=32) (l:=[c])
 simpa using this
def BX(l:List Nat)(i j:Nat)(h:i<=j):(l.take i).count 32+(l.drop j).count 32<=l.count 32/\(l.take i).length+(l.drop j).length<=l.length:=by
 have e:(l.drop j)=(l.drop i).drop (j-i):=by rw[List.drop_drop];congr 1;omega
 have h1:((l.drop i).drop (j-i)).Sublist (l.drop i):=List.drop_sublist _ _;have h2:=h1.count_le 32;have a:=h1.length_le;rw[e];have c:l.count 32=(l.take i).count 32+(l.drop i).count 32:=by rw[<-List.count_append,AX]
 have d:l.length=(l.take i).length+(l.drop i).length:=by rw[<-Aq,AX]
 omega
def HD{x:Str}{i:Int}(h:0<=i/\i<=(x.length:Int)):jV x (Txt.slice x none (some i)++Txt.slice x (some (i+1)) none):=by
 obtain⟨a,b⟩:=BX (sg x) i.toNat (i+1).toNat ω;refine⟨?_,?_⟩
 ·rw[<-fU,<-fU x,jc,l9 h,l_ ω,Aq];omega
 ·show(sg _).count 32<=_
  rw[jc,l9 h,l_ ω,List.count_append];show _<=(sg x).count 32+1;omega
def BY{x:Str}{i j:Int}{c:Nat}(h:0<=i/\i<=(x.length:Int))(d:i<=j):jV x (Txt.slice x none (some i)++⟨#[c]⟩++Txt.slice x (some j) none):=by
 obtain⟨a,b⟩:=BX (sg x) i.toNat j.toNat ω;have e:sg (⟨#[c]⟩:Str)=[c]:=rfl;refine⟨?_,?_⟩
 ·rw[<-fU,<-fU x,jc,jc,l9 h,l_ ω,Aq,Aq,e,List.length_singleton];omega
 ·show(sg _).count 32<=_
  have:=HC c;rw[jc,jc,l9 h,l_ ω,List.count_append,List.count_append,e];show _<=(sg x).count 32+1;omega
def oB(x:Str):(Aw x " ").length=bl x+1:=by
 rw[show(" ":Str)=⟨#[32]⟩ from δ];exact Hz x 32
def bl_join{ws:List Str}(h:∀t∈ws,32∉sg t):bl (Txt.join " " ws)+1=ws.length\/(ws=[]/\bl (Txt.join " " ws)=0):=by
 by_cases a:ws=[]
 ·right
  subst a;exact⟨rfl,δ⟩
 ·left
  rw[show Txt.join " " ws=Str.join " " ws from StrLaws.glued_eq_join _ _,show(" ":Str)=⟨#[32]⟩ from δ];exact wb a h
def zO{x t:Str}(h:t∈Aw x " "):32∉sg t:=by
 rw[show(" ":Str)=⟨#[32]⟩ from δ] at h;exact StrLaws.split_free _ _ t h
def BZ(x:Str):bj (Aw x " ")+(Aw x " ").length=x.length+1:=by
 rw[show(" ":Str)=⟨#[32]⟩ from δ];exact oz x 32
def oD(a b:List Str):bj (a++b)=bj a+bj b:=by unfold bj;rw[Au,List.sum_append]
def wc(t:Str)(b:List Str):bj (t::b)=t.length+bj b:=by unfold bj;rw[AT,List.sum_cons]
def B0(ws:List Str)(k:Nat)(t:Str)(h:ws[k]?=some t):bj (ws.eraseIdx k)+t.length=bj ws/\(ws.eraseIdx k).length+1=ws.length:=by
 have hk:k<ws.length:=(List.getElem?_eq_some_iff.mp h).1;have e:ws=ws.take k++t::ws.drop (k+1):=by
  rw[<-(List.getElem?_eq_some_iff.mp h).2,<-List.drop_eq_getElem_cons hk,AX]
 rw[List.eraseIdx_eq_take_drop_succ];have h1:bj ws=bj (ws.take k)+(t.length+bj (ws.drop (k+1))):=by
  have:=congrArg bj e;rw[oD,wc] at this;exact this
 have h2:ws.length=(ws.take k).length+((ws.drop (k+1)).length+1):=by
  have:=congrArg List.length e;rw[Aq,Ap] at this;exact this
 rw[oD,Aq];omega
def B3(ws:List Str)(i:Nat)(t:Str):bj (ws.take i++t::ws.drop i)=bj ws+t.length/\(ws.take i++t::ws.drop i).length=ws.length+1:=by
 have h1:bj ws=bj (ws.take i)+bj (ws.drop i):=by rw[<-oD,AX]
 have h2:ws.length=(ws.take i).length+(ws.drop i).length:=by rw[<-Aq,AX]
 rw[oD,wc,Aq,Ap];omega
end Tx
end
section
namespace K8
open K1 Tx
open PySem L2 STb
def HE{m:Int}{x:Str}(h:okN m x=true):∀c∈x.cps.toList,48<=c/\c<=57:=fun c hc=>by
 unfold okN at h;simp only[AE] at h;exact of_decide_eq_true (List.all_eq_true.mp h.2.2.1 c hc)
def B4{m:Int}{x:Str}(h:okN m x=true):1<=x.length/\(x.length:Int)<=m/\(∀c∈x.cps.toList,48<=c/\c<=57)/\(x.cps.toList.length=1\/x.cps.toList[0]?≠some 48):=by
 have hf:=HE h;have d:x.cps.toList.length=x.length:=Af;unfold okN at h;rw[AE,AE,AE,decide_eq_true_eq,decide_eq_true_eq] at h;obtain⟨h1,h2,_,a⟩:=h;refine⟨ω,h2,hf,?_⟩
 by_cases e:x.cps.toList[0]?=some 48
 ·rw[decide_eq_true e,Bool.and_true,Bool.not_eq_true',decide_eq_false_iff_not] at a
  exact .inl ω
 ·exact .inr e
def HF{m:Int}{x:Str}(h:okN m x=true):fig (valN x)=x:=by
 obtain⟨h1,_,d,e⟩:=B4 h;have c:x.cps.toList.length=x.length:=Af;obtain⟨a,b⟩:=HB x.cps.toList (fun z=>by rw[z] at c;simp at c;omega) d e;apply Str.ext';apply Array.toList_inj.mp;unfold valN;rw[wa,a]
def HG{n:Int}(h:0<=n/\n<=99):okN 2 (fig n)=true/\valN (fig n)=n:=by
 obtain⟨a,b,c,d,e⟩:=lN h;have hf:(fig n).cps.toList.all dr=true:=List.all_eq_true.mpr fun c hc=>decide_eq_true (d c hc);refine⟨?_,?_⟩
 ·unfold okN
  rw[decide_eq_true (show(1:Int)<=((fig n).length:Int) from ω),decide_eq_true (show((fig n).length:Int)<=2 from ω),hf];rcases e with e|e
  ·rw[decide_eq_false (show ¬(1:Int)<((fig n).length:Int) from ω)];rfl
  ·have:¬(fig n).cps.toList[0]?=some 48:=fun z=>e (by rw[<-z];simp)
   rw[decide_eq_false this,Bd];rfl
 ·have:=v4 (m:=2) hf b ω ξ
  rw[a] at this;exact(As this).symm
def oE{x:Str}(h:zT x=true):word (zK x)=x/\c8 (zK x)/\zK x≠[]:=by
 unfold zT at h;have h':=List.all_eq_true.mp h;refine⟨?_,fun i hi=>?_,fun z=>i_ x "-" (List.map_eq_nil_iff.mp z)⟩
 ·unfold word zK
  rw[AK,show(Aw x "-").map (fig ∘ valN)=Aw x "-" from(List.map_congr_left fun t ht=>HF (h' t ht)).trans (List.map_id' _)];rw[show Txt.join "-" (Aw x "-")=Str.join "-" (Aw x "-") from StrLaws.glued_eq_join _ _,dn,StrLaws.join_split]
 ·obtain⟨t,ht,rfl⟩:=List.mem_map.mp hi
  obtain⟨_,h2,a,_⟩:=B4 (h' t ht);have c:=HA t.cps.toList a;have d:t.cps.toList.length=t.length:=Af;rw[d] at c;have:10 ^ t.length<=10 ^ 2:=Nat.pow_le_pow_right ξ ω;show 0<=valN t/\valN t<=99;unfold valN;omega
def HH{p:List Int}(h:c8 p)(a:p≠[]):zK (word p)=p:=by
 unfold zK;rw[GO h a,AK];exact(List.map_congr_left fun t ht=>(HG (h t ht)).2).trans (List.map_id' _)
abbrev wsT(t:Str):List Str:=Aw t " "
abbrev psT(t:Str):Ξ:=(wsT t).map zK
def fV(t:Str):Option Ξ:=if t="" then some [] else if((wsT t).all zT&&(bv (psT t)&&decide (text (tops (canon (psT t)))=t)))=true then some (psT t) else none
def d_(z:Str):Bool:=zT z&&(decide ((zK z).length<=5)&&aX (zK z))
def fY(t:Str):Option Ξ:=if t="" then some [] else if((wsT t).all d_&&(decide ((psT t).length<=20)&&(decide ((canon (psT t)).length<=200)&&decide (psT t=tops (canon (psT t))))))=true then some (psT t) else none
def HI{t:Str}(h:(wsT t).all zT=true):text (psT t)=t:=by
 unfold text psT;rw[AK,show(wsT t).map (word ∘ zK)=wsT t from(List.map_congr_left fun z a=>(oE (List.all_eq_true.mp h z a)).1).trans (List.map_id' _)];rw[show Txt.join " " (wsT t)=Str.join " " (wsT t) from StrLaws.glued_eq_join _ _];unfold wsT;rw[blank,StrLaws.join_split]
def HJ{p:List Int}(hp:c8 p)(a:p≠[]):aE p=(decide (p.length<=5)&&aX p):=by
 rw[t8];unfold zZ;rw[decide_eq_true (show 1<=p.length from List.length_pos_iff.mpr a),show p.all (fun p=>decide (0<=p)&&decide (p<=99))=true from List.all_eq_true.mpr fun x hx=>by rw[decide_eq_true (hp x hx).1,decide_eq_true (hp x hx).2];rfl];simp
def HK(t:Str):fV t=fY t:=by
 unfold fV fY
 by_cases he:t=""
 ·rw[if_pos he,if_pos he]
 rw[if_neg he,if_neg he]
 suffices h:((wsT t).all zT&&(bv (psT t)&&decide (text (tops (canon (psT t)))=t)))=((wsT t).all d_&&(decide ((psT t).length<=20)&&(decide ((canon (psT t)).length<=200)&&decide (psT t=tops (canon (psT t)))))) by rw[h]
 cases hw:(wsT t).all zT with
 |false=>
  have:(wsT t).all d_=false:=by
   rw[Bool.eq_false_iff];intro z;have:(wsT t).all zT=true:=List.all_eq_true.mpr fun y hy=>by
    have:=List.all_eq_true.mp z y hy;unfold d_ at this;rw[AE] at this;exact this.1
   rw[hw] at this;cases this
  rw[this];rfl
 |true=>
  have hb:∀p∈psT t,c8 p/\p≠[]:=fun p hp=>by
   obtain⟨z,a,rfl⟩:=List.mem_map.mp hp;exact(oE (List.all_eq_true.mp hw z a)).2
  have g:psT t≠[]:=fun z=>i_ t " " (List.map_eq_nil_iff.mp z);have e1:(wsT t).all d_=(psT t).all aE:=by
   unfold psT;rw[List.all_map,Bool.eq_iff_iff,List.all_eq_true,List.all_eq_true];have q:∀z∈wsT t,d_ z=aE (zK z):=fun z a=>by
    have c:=List.all_eq_true.mp hw z a;obtain⟨_,h2,f⟩:=oE c;unfold d_;rw[HJ h2 f,c,Bool.true_and]
   exact⟨fun h z a=>by show aE (zK z)=true;rw[<-q z a];exact h z a,fun h z a=>by rw[q z a];exact h z a⟩
  have e2:decide (text (tops (canon (psT t)))=t)=decide (psT t=tops (canon (psT t))):=by
   refine decide_eq_decide.mpr ⟨fun z=>?_,fun z=>by rw[<-z];exact HI hw⟩;have hq:∀p∈tops (canon (psT t)),c8 p/\p≠[]:=fun p hp=>hb p (vf hp)
   by_cases d:tops (canon (psT t))=[]
   ·rw[d] at z
    exact absurd z.symm (by rw[show text []="" from δ];exact he)
   ·have e:=BC (fun p hp=>(hq p hp).1) d
    rw[z] at e;have:psT t=((tops (canon (psT t))).map word).map zK:=by rw[<-e]
    rw[AK,show(tops (canon (psT t))).map (zK ∘ word)=tops (canon (psT t)) from(List.map_congr_left fun p hp=>HH (hq p hp).1 (hq p hp).2).trans (List.map_id' _)] at this;exact this
  rw[e1,e2,Bool.true_and];unfold bv;rw[<-i4]
  by_cases hp:psT t=tops (canon (psT t))
  ·have i:¬(dd (psT t)).length<(psT t).length:=by
    have:(psT t).Nodup:=by rw[hp];exact yR _
    have:=this.length_le_of_subset (fun x hx=>(hU (psT t) x).mpr hx);omega
   rw[decide_eq_true hp,decide_eq_false i];simp only[Bool.not_false,Bool.and_true];cases decide ((psT t).length<=20)<;>cases(psT t).all aE<;>rfl
  ·rw[decide_eq_false hp]
   simp
end K8
end
section
namespace L2
open PySem PySem.Spec PyProof.Rows
section
variable{X:Cx}{scope:Scope}{N':List Str}{ap:List (Option Nat)}{tg iter aI:Expr}{aD:List Expr}{wi:TI}{g:TG}{tc:TT}{te:TE}{pos:Pos}
def HL{E:XK}{i:Nat}{x:Str}{aH F:Pos}(hc:X.calm=true)(hk:scope.kind=.function)(J:∀y∈scope.names,y.2≠.cell)(S:∀y∈scope.names,y.2=.local->scope.names.lookup y.1=some .local)(hfr:∀y∈scope.names,y.2=.free->X.env.kindOf y.1=some .cell\/X.env.kindOf y.1=some .free)(T:hF X.N N' ap scope)(hi:PI X tg iter wi)(U:∀d C s₀ H₀ ex,PG (dS X scope N' d C s₀ H₀ ex E) tg g)(ht:∀d C s₀ H₀ ex,dh (dS X scope N' d C s₀ H₀ ex E) aD tc)(he:∀d C s₀ H₀ ex,PE (dS X scope N' d C s₀ H₀ ex E) aI te)(p:X.stack=X.env::X.outer)(W:X.env.frame=some X.env.locals)(Y:eK X E)(hs:∀x,Be iter X.env x=pure x)(Z:X.N.Nodup)(r:X.N[i]?=some x)(hx:Loc X.env.scope x)(hf:X.fn x=true\/X.env.scope.names.lookup x=some .local)(gg:swapsWith (.ListComp aI [⟨tg,iter,aD,0⟩] scope pos) (some (.Name x aH)) F.line X.env=pure true):PS X (.Assign [.Name x aH] (.ListComp aI [⟨tg,iter,aD,0⟩] scope pos) F) (ff (er wi ap g tc te) (cm i)):=by
 intro aa s σ H D I h;rw[exec_Assign_Name_used _ _ _ _ gg];refine Aa (wpAny_standAt (Aa ?_));show wpAny _ X.A (do let _ <-comprehension (.ListComp aI [⟨tg,iter,aD,0⟩] scope pos) scope X.env _ (newList []) (firstAsync [⟨tg,iter,aD,0⟩]) (firstIter [⟨tg,iter,aD,0⟩] X.env) (some (assign (.Name x aH) X.env))) _ _ s;refine Aa (Bb (BP (use:=some (assign (.Name x aH) X.env)) (R:=fun _ s'=>SP X aa D .next s') hc hk J S hfr T hi U ht he hs I h p W Y fun G C H' w f L q=>?_) (fun _ s' hq=>Ad (Ad hq)) fun _ _ e=>e);show wpAny _ X.A (assign (.Name x aH) X.env (.ref G)) _ _ w;refine wpAny_assign_Name (o0 (v:=.ref G) (L.back w.heap (Heap.SameBut.refl _ _)) Z r hx rfl (fun M I5 ⟨a,l,O⟩=>?_) hf);have Q:C≠a:=by
  rcases O with e|e
  ·rw[e];exact L.nl
  ·exact fun z=>L.nc x a e z.symm
 obtain⟨m,P⟩:=L.ns;refine⟨m,P.sameBut l Q,fun h' j=>⟨_,H',?_,q⟩⟩;refine I5.call' (s':={M with heap:=h'}) (ch:=[C]) rfl ⟨fun b o q n hb hx=>?_,fun b o q n hb hx=>?_,fun b o q n hx=>n,fun b o q hx=>?_,fun b xs q=>q,fun b o u q=>q,fun b ps q=>⟨#[],by simpa using q⟩⟩ ?_ I5.bare fun b hb=>?_
 ·exact(j.2 b (by simpa using hx)).trans q
 ·exact⟨o.slots,(j.2 b (by simpa using hx)).trans q⟩
 ·exact⟨o,(j.2 b (by simpa using hx)).trans q⟩
 ·intro b u e
  refine(I5.hok b u e).stay (fun c v hc q=>(j.2 c ?_).trans q) (fun _ q=>q) fun _ _ q=>q;rintro rfl;rcases hc with z|z
  ·rw[<-z,L.no] at e;cases e
  ·rw[L.no] at z;cases z
 ·have e:b=C:=by simpa using hb
  subst e;exact⟨.inr L.far,L.nl,L.nc,L.np⟩
end
section
variable{X:Cx}{scope:Scope}{tg iter aI:Expr}{aD:List Expr}{wi:TI}{g:TG}{tc:TT}{te:TE}{pos:Pos}
def HM{E:XK}{i:Nat}{x:Str}{aH e:Pos}(f:X.N.Nodup)(c:X.N[i]?=some x)(hx:Loc X.env.scope x)(N N':List Str)(ap:List (Option Nat))(h:eK X E)(hi:PI X tg iter wi)(j:∀a C s₀ H₀ ex,PG (dS X scope N' a C s₀ H₀ ex E) tg g)(ht:∀a C s₀ H₀ ex,dh (dS X scope N' a C s₀ H₀ ex E) aD tc)(he:∀a C s₀ H₀ ex,PE (dS X scope N' a C s₀ H₀ ex E) aI te)(hc:X.calm=true:=by rfl)(hk:scope.kind=.function:=by rfl)(l:∀y∈scope.names,y.2≠.cell:=by decide +kernel)(o:∀y∈scope.names,y.2=.local->scope.names.lookup y.1=some .local:=by decide +kernel)(hfr:∀y∈scope.names,y.2=.free->X.env.kindOf y.1=some .cell\/X.env.kindOf y.1=some .free)(p:X.N=N:=by rfl)(q:eC N N' ap scope=true:=by decide +kernel)(d:X.stack=X.env::X.outer:=by rfl)(r:X.env.frame=some X.env.locals:=by rfl)(hs:∀x,Be iter X.env x=pure x:=by intro _;rfl)(hf:X.fn x=true\/X.env.scope.names.lookup x=some .local:=by first|exact .inl rfl|exact .inr rfl|assumption)(s:swapsWith (.ListComp aI [⟨tg,iter,aD,0⟩] scope pos) (some (.Name x aH)) e.line X.env=pure true:=by rfl):PS X (.Assign [.Name x aH] (.ListComp aI [⟨tg,iter,aD,0⟩] scope pos) e) (ff (er wi ap g tc te) (cm i)):=
 HL hc hk l o hfr (lj (by rw[p];exact q)) hi j ht he d r h hs f c hx hf s
end
end L2
end
section
namespace K8
open K1 Tx
open PySem L2 STb
abbrev we:Stmt:=top 35
def B5{pss:Ξ}(h:pss.length<=30)(a:∀p∈pss,p.length<=5):(dd (pss.flatMap parts)).length<1000:=by
 have h1:(pss.flatMap parts).length<=31*pss.length:=by
  clear h
  induction pss with
  |nil=>simp
  |cons p r ih=>
   rw[List.flatMap_cons,Aq,Ap];have:=ih fun q hq=>a q (An _ hq);have h2:(parts p).length<=31:=by
    rw[iS];have:2 ^ p.length<=2 ^ 5:=Nat.pow_le_pow_right ξ (a p Aj);omega
   omega
 have:=gI (pss.flatMap parts);omega
section
variable{P:Program}{w:World}{K:Ae}{mg:Str->Option Value}{base:Heap}{f fN:Addr}{fd:FuncData}
def HN{H2:Hp}{L D:Addr}{ws:List Str}{Q:VK}{E:XK}(u:H2 L=some (.lst (ws.map V.str)))(i:ws.length<=1000)(hw:∀x∈ws,x.length<=50000)(l:H2 D=none)(k:(ws.all zT=true/\∀bs c,Same H2 c->c D=some (.lst (bs.map V.ref))->Tps c bs (ws.map zK)->Q (.ref D) c)\/(ws.all zT=false/\∀c,Same H2 c->∀x,c x=none->E (.ref x) (some fN) c)):cw (du K L) (cm 0) bN (jn (v_ fN) [] E (zB (aY 0) bJ)) [none] H2 D Q:=by
 refine zR (xs:=ws.map V.str) (fun j σ ys c=>∃(v:Option V)(bs:List Addr),σ=[v]/\Same H2 c/\c D=some (.lst ys)/\ys=bs.map V.ref/\Tps c bs ((ws.map zK).take j)/\(ws.take j).all zT=true) ?_ ?_ ?_ ?_
 ·exact⟨none,[],rfl,Same.new l,am,rfl,.nil,rfl⟩
 ·rintro j σ ys c ⟨v,bs,rfl,e,_⟩
  exact SqL.of (e _ _ u)
 ·rintro j σ ys c x hx r hy ⟨v,bs,rfl,e,f,rfl,ht,g⟩
  rw[Ar] at hx;cases eq:ws[j]? with
  |none=>rw[eq] at hx;cases hx
  |some q=>
   rw[eq] at hx;obtain rfl:=As hx;have hq:=Az eq;have h:=hw q hq;have s:(ws.map zK)[j]?=some (zK q):=by rw[Ar,eq];rfl
   have hs:(Aw q "-").length<=60000/\∀y∈Aw q "-",y.length<=50000:=by
    rw[show("-":Str)=⟨#[45]⟩ from dn];have:=oz q 45;exact⟨ω,fun y hy=>AA (split_len hy) h⟩
   refine cb ⟨_,rfl,q,rfl,ω,by have:=hs.1;omega,fun z i=>AA (hs.2 z i) ξ,?_⟩;cases hb:zT q with
   |true=>
    refine .inl ⟨rfl,fun a o d p=>bO (by rw[Ab];exact zd ω) r hy (d _ _ f) ⟨_,bs++[a],rfl,(e.trans d).then l,am,by rw[Au];rfl,?_,?_⟩⟩
    ·rw[AN s]
     exact Tps.upd (Tps.snoc (d.tps ht) p) (d _ _ f) (by intro xs z;cases z)
    ·rw[AN eq,List.all_append,g]
     simp[hb]
   |false=>
    refine .inr ⟨rfl,fun o d y hy=>?_⟩;rcases k with ⟨b,_⟩|⟨_,k⟩
    ·rw[List.all_eq_true.mp b q hq] at hb;cases hb
    ·exact k o (e.trans d) y hy
 ·rintro σ ys c ⟨v,bs,rfl,e,f,rfl,ht,g⟩
  rw[Ab,take_all] at g;rw[Ab,At (by rw[Ab];exact Ag _)] at ht;rcases k with ⟨_,k⟩|⟨b,_⟩
  ·exact k bs c e f ht
  ·rw[g] at b;cases b
def B6(fN:Addr):Sp:=fun vs H Q E=>∃t,vs=[.str t]/\t.length<=50000/\(wsT t).length<=30/\
 ((∃pss,fV t=some pss/\∀D bs H',Same H H'->H D=none->H' D=some (.lst (bs.map V.ref))->Tps H' bs pss->Q (.ref D) H')\/(fV t=none/\∀H',Same H H'->∀x,H' x=none->E (.ref x) (some fN) H'))
def B7:zo ["text","web"] ["text"] (zf we):=⟨rfl,rfl,rfl,δ,rfl,δ,δ⟩
def HP(F:Fun K "read" "read" we f fd)(B:Bt mg)(Y:mg "NoNote"=some (.ref fN))(Z:QX K fN)(Ci:Cl P w K mg base aT "is_web" ["web"] 6 (uT K))(Cs:Cl P w K mg base aT "shown" ["web"] 10 (BI K))(Cp:Cl P w K mg base (cZ P w) "read_piece" ["word"] 3 (v_ fN)):FnOk P w K mg base (cZ P w) 11 f fd ["text"] (B6 fN):=by
 refine F.ok1 B7 (fun vs H Q E h=>?_) (fun cdv A outer s H vs Q E hr h=>?_)
 ·obtain⟨t,rfl,_⟩:=h;rfl
 ·obtain⟨t,rfl,hz,U,h⟩:=h
  refine⟨_,ze (zS (zq dI (pv 0) pe_str (au _)) (zg (zp (zI aq))) zt)
   (ze (HM (E:=E) (i:=1) B7.nd rfl (Or.inl rfl) ["text","web"] ["word"] [none] BQ (zF (zW AG PySem.F.slot_str_split PySem.F.type_str_split iR (pv 0) (ae pe_str aq)))
    (fun T C s₀ H₀ ex=>zn (i:=0) (cz ["word"]) rfl (Or.inl rfl)) (fun T C s₀ H₀ ex=>zG) (fun T C s₀ H₀ ex=>cB Cp hr rfl (BO (E:=E)) (ae (pv 0) aq)) (hfr:=bP δ))
   (ze (zS (gQ (jj (cB Ci hr rfl aw (ae (pv 1) aq)))) (zg (lV (C:=fN) (EX:=E) rfl rfl Y Z (fun aa σ H' s' x I hx p hs r=>jP I hx p hs (fun a e=>nomatch e) r))) zt)
   (ze (zS (zq pu (cB Cs hr rfl aw (ae (pv 1) aq)) (pv 0) (au _)) (zg (lV (C:=fN) (EX:=E) rfl rfl Y Z (fun aa σ H' s' x I hx p hs r=>jP I hx p hs (fun a e=>nomatch e) r))) zt)
   (zg (zp (pv 1)))))),?_⟩
  have L:∀{H1:Hp},fV t=none->Same H H1->∀y,H1 y=none->E (.ref y) (some fN) H1:=fun hb s1=>by
   rcases h with ⟨cs,b,_⟩|⟨_,k⟩
   ·rw[hb] at b;cases b
   ·exact k _ s1
  have l:∀{pss:Ξ},fV t=some pss->∀D bs H',Same H H'->H D=none->H' D=some (.lst (bs.map V.ref))->Tps H' bs pss->Q (.ref D) H':=fun hb=>by
   rcases h with ⟨cs,b,k⟩|⟨b,_⟩
   ·rw[hb] at b;obtain rfl:=As b;exact k
   ·rw[hb] at b;cases b
  refine⟨_,rfl,rfl,_,rfl,?_⟩
  by_cases he:t=""
  ·rw[decide_eq_true (by rw[he])]
   exact be ⟨zd (by simp),fun D g=>l (pss:=[]) (by unfold fV;rw[if_pos he]) D [] _ (Same.new g) g am .nil⟩
  rw[decide_eq_false fun z=>he (by injection z)];have d:fV t=if((wsT t).all zT&&(bv (psT t)&&decide (text (tops (canon (psT t)))=t)))=true then some (psT t) else none:=by unfold fV;rw[if_neg he]
  have M:∀z∈wsT t,z.length<=50000:=fun z aR=>by
   have e:z∈Aw t ⟨#[32]⟩:=by rw[<-blank];exact aR
   exact AA (split_len e) hz
  have hwn:(Aw t " ").length<=30:=U;refine bg ⟨_,rfl,rfl,_,_,rfl,rfl,ξ,zd ω,zd ω,fun S hS=>⟨S,rfl,⟨_,SqL.of am⟩,fun D g=>zA (HN (ws:=wsT t) am ω M g ?_)⟩⟩;have N:=Same.new (o:=.lst ((wsT t).map V.str)) hS;have dG:H D=none:=N.free g;cases hall:(wsT t).all zT with
  |false=>exact .inr ⟨rfl,fun H3 u=>L (by rw[d,hall,Bool.false_and,if_neg ξ]) (N.trans u)⟩
  |true=>
   rw[hall,Bool.true_and] at d;refine .inl ⟨rfl,fun bs H3 u v G=>?_⟩;have s3:=N.trans u;have O:(psT t).length<=30:=by rw[Ab];exact U
   refine⟨_,rfl,D,bs,psT t,rfl,SqL.of v,G,fun hp=>B5 O fun q hq=>?_,fun H4 j=>⟨_,rfl,?_⟩⟩
   ·have:=List.all_eq_true.mp hp q hq
    unfold aE at this;simp only[AE,decide_eq_true_eq] at this;exact this.1.1.1.2
   have W:=s3.trans j;cases hwb:bv (psT t) with
   |false=>exact be (L (by rw[d,hwb,Bool.false_and,if_neg ξ]) W)
   |true=>
    rw[hwb,Bool.true_and] at d;refine bg ⟨_,rfl,D,bs,psT t,rfl,SqL.of (j _ _ v),j.tps G,hwb,fun H5 J=>⟨_,rfl,rfl,_,rfl,?_⟩⟩;have X:=W.trans J
    by_cases c:text (tops (canon (psT t)))=t
    ·rw[show(!decide (V.str (text (tops (canon (psT t))))=V.str t))=false by rw[decide_eq_true (by rw[c])];rfl]
     exact bg ⟨_,rfl,l (by rw[d,decide_eq_true c,if_pos rfl]) D bs H5 X dG (J _ _ (j _ _ v)) (J.tps (j.tps G))⟩
    ·rw[show(!decide (V.str (text (tops (canon (psT t))))=V.str t))=true by rw[decide_eq_false (fun z=>c (by injection z))];rfl]
     exact be (L (by rw[d,decide_eq_false c,if_neg ξ]) X)
end
end K8
end
section
set_option maxHeartbeats 3200000
namespace STb
open PySem PySem.SetTable PyProof.Rows
def wf{c:Type}(next:Nat->Nat):∀(fuel k:Nat)(left:List c)(out:Array c),left.length=fuel->∃l,l.Perm left/\(pickOrder.go next fuel k left out).toList=out.toList++l
 |0,k,left,out,h=>⟨[],by rw[List.eq_nil_of_length_eq_zero h],by simp[pickOrder.go]⟩
 |fuel+1,k,left,out,h=>by
  have a:next k%left.length<left.length:=Nat.mod_lt _ ω;unfold pickOrder.go;rw[Ao a];dsimp only;obtain⟨l,d,e⟩:=wf next fuel (k+1) (left.eraseIdx (next k%left.length)) (out.push left[next k%left.length]) (by rw[List.length_eraseIdx,if_pos a];omega);refine⟨left[next k%left.length]::l,?_,?_⟩
  ·refine(List.Perm.cons _ d).trans ?_
   rw[List.eraseIdx_eq_take_drop_succ];refine(List.perm_middle (l₁:=left.take (next k%left.length))).symm.trans ?_;rw[<-List.drop_eq_getElem_cons a,AX]
  ·rw[e,Array.toList_push,AY]
   rfl
def HQ{c:Type}(next:Nat->Nat)(xs:Array c):(pickOrder next xs).toList.Perm xs.toList:=by
 obtain⟨l,a,e⟩:=wf next xs.size 0 xs.toList #[] (by simp);unfold pickOrder;rw[e]
 simpa using a
section
variable{prog:Program}{w:World}{K:Type}[DecidableEq K]{knd:KeyKind prog w K}{A:Around}{E:Ω}{s:Shared}
def HR{Q:Bool->Shared->Prop}(h:Q (w.params.followText "set-order") s):wpAny (model prog w) A setsByText Q E s:=by
 unfold setsByText;exact Aa (wpAny_askSetting (Ad h))
def wp_walk{B:List Addr}{S:Addr}{o:Obj}{es:Array (Int×Value)}{ep:Nat}{t:SetTable}{ks:List (List K)}(X:TS knd s.heap S o es ep t ks B){Q:Array (Int×Value)->Shared->Prop}(h:∀r:Array (Int×Value),r.toList.Perm es.toList->Q r s):wpAny (model prog w) A (setWalk S) Q E s:=by
 have a:=fits_of X.tb;unfold setWalk;refine Aa (wpAny_setState_of X.at_ X.dt a ?_);dsimp only;refine Aa (HR ?_);cases hb:w.params.followText "set-order" with
 |true=>
  simp only[if_true];exact Aa (wpAny_askSetting (Ad (h _ (HQ _ es))))
 |false=>
  have hw:t.led=true/\t.plain=true:=X.wk.resolve_left (by rw[hb];simp);simp only[Ai,if_false];show wpAny _ _ (ite ((!t.plain&&decide (es.size>1))=true) _ _) _ _ _;rw[hw.2];simp only[Bool.not_true,Bool.false_and,Ai,if_false];show wpAny _ _ ((ite ((!t.led&&decide (es.size>1))=true) _ _) >>= _) _ _ _;rw[hw.1];simp only[Bool.not_true,Bool.false_and,Ai,if_false];exact Aa (Ad (Ad (h es (List.Perm.refl _))))
end
end STb
end
section
namespace STb
def HS(ns:List Int):∀i,i<=ns.length->PyProof.Rows.firstMet (fun i=>ns.getD i 0) i=dd (ns.take i):=by
 intro i
 induction i with
 |zero=>intro _;simp[PyProof.Rows.firstMet,dd]
 |succ i ih=>
  intro hi;have hx:ns[i]?=some ns[i]:=Ao ω;have a:ns.take (i+1)=ns.take i++[ns[i]]:=by rw[List.take_add_one,hx];rfl
  rw[PyProof.Rows.firstMet_succ,ih ω,a,jE];have c:ns.getD i 0=ns[i]:=by rw[List.getD_eq_getElem?_getD,hx];rfl
  rw[c];unfold PyProof.Rows.step_dedup
  by_cases q:ns[i]∈dd (ns.take i)
  ·rw[if_pos q];simp[q]
  ·rw[if_neg q];simp[q]
end STb
namespace L2
open PySem PySem.Spec PyProof.Rows
end L2
end
section
namespace STb
open PySem PySem.SetTable PyProof.Rows
def iv:Value->Int
 |.int n _=>n
 |_=>0
def SI(prog:Program)(w:World)(h:Heap)(S:Addr)(ns:List Int):Prop:=
 ∃o es ep t,h.get? S=some o/\o.ExactSet/\o.data=.set es ep t/\Tb t (es.map (·.1))/\ElemsOf (intKind prog w) es.toList/\(es.toList.map fun e=>iv e.2).Perm ns/\ns.Nodup/\
  ((t.mask=7/\es.size<=4)\/(t.mask=31/\es.size<=18))/\(w.params.followText "set-order"=true\/(t.led=true/\t.plain=true))
def SI.keep{prog:Program}{w:World}{h h':Heap}{S:Addr}{ns:List Int}(x:SI prog w h S ns)(k:∀o,h.get? S=some o->h'.get? S=some o):SI prog w h' S ns:=
 let ⟨o,es,ep,t,h1,r⟩:=x;⟨o,es,ep,t,k o h1,r⟩
def HU{l:List Nat}{n:Nat}(c:l.Nodup)(d:l.length=n)(hb:∀q∈l,q<n):l.Perm (AQ n):=by
 refine(List.perm_ext_iff_of_nodup c List.nodup_range).mpr fun q=>⟨fun h=>List.mem_range.mpr (hb q h),fun h=>?_⟩;apply Classical.byContradiction;intro z;have a:(q::l).Nodup:=List.nodup_cons.mpr ⟨z,c⟩;have sub:(q::l) ⊆ AQ n:=fun x hx=>by
  rcases List.mem_cons.mp hx with e|e
  ·rw[e];exact h
  ·exact List.mem_range.mpr (hb x e)
 have:=a.length_le_of_subset sub;rw[Ap,List.length_range] at this;omega
def HV{t:SetTable}{hs:Array Int}(T:Tb t hs)(h:Int):∃ne,¬dQ t (pos t.mask h ne)/\(∀m,m<ne->dQ t (pos t.mask h m))/\t.freeSlot h=some (pos t.mask h ne,false):=by
 obtain⟨ne,a,he,hm⟩:=yg T h;refine⟨ne,he,hm,?_⟩;unfold SetTable.freeSlot;have c:t.probeStart h=pr t.mask h 0:=rfl;rw[c];rcases probe_spec T (hashAt:=fun _=>h+1) a he hm (AW _) with ⟨e,_⟩|⟨N,i,_,_,_,e,_⟩
 ·rw[e];rfl
 ·omega
def HW{t:SetTable}{es:Array (Int×Value)}{want m2:Nat}(hw:SetTable.sizeAbove want-1=m2)(hc:eZ m2)(w:m2%2=1)(hr:es.size<=m2):∃es' t',relayAll t es want=(es',t',false)/\t'.mask=m2/\t'.led=t.led/\t'.plain=t.plain/\Tb t' (es'.map (·.1)):=by
 obtain⟨d,a,e1,e2,e3,l,g,o,f,r⟩:=yk hc w t.finger (t.movedTo m2) t.led t.plain (es.map (·.1)) (by rw[A3];exact hr);have s:t.relaid (es.map (·.1)) want=some (d,a):=by
  unfold SetTable.relaid;rw[hw];exact e1
 rw[A3] at g f;obtain⟨c,f1,f2,f3,f4⟩:=tm (es:=es) f;have j:a.filterMap (es[·]?)=c.toArray:=by
  apply Array.toList_inj.mp;rw[Array.toList_filterMap,f1]
 have x:c.length=es.size:=by rw[f2,Af,g]
 have h:(c.toArray.map (·.1))=a.map fun q=>((es.map (·.1))[q]?).getD 0:=by
  apply Array.ext_getElem?;intro i;rw[Array.getElem?_map,Array.getElem?_map,List.getElem?_toArray];cases q:a[i]? with
  |none=>
   have:a.toList.length<=i:=by rw[Af];exact Array.getElem?_eq_none_iff.mp q
   rw[List.getElem?_eq_none ω]
   rfl
  |some p=>
   have e:=f4 i p (by rw[AD];exact q);have hp:=f p (by rw[<-AD] at q;exact Az q);rw[e,getElem?_pos es p hp];simp[hp]
 have T2:Tb d (c.toArray.map (·.1)):=by rw[h];exact r
 refine⟨c.toArray,d,?_,e2,e3,l,T2⟩;unfold relayAll;rw[s];dsimp only;have u:coversAll a es.size=true:=by
  unfold coversAll;rw[List.isPerm_iff];exact HU o (by rw[Af];exact g) f
 have v:d.fits (a.filterMap (es[·]?)).size=true:=by rw[j];exact fits_of T2
 rw[u,v,j]
 rfl
section
variable{prog:Program}{w:World}{A:Around}{E:Ω}{s:Shared}
def B8{e:Int×Value}{l:List (Int×Value)}(h:ElemsOf (intKind prog w) l)(he:e∈l):∃n t,e=((intKind prog w).hash n,.int n t):=by
 obtain⟨⟨k,h1,h2⟩,_⟩:=h e he;obtain⟨t,a⟩:=Value.isInt_shape h1;exact⟨k,t,Prod.ext h2 a⟩
def HX{S:Addr}{ns:List Int}(X:SI prog w s.heap S ns)(hn:ns.length<18){n:Int}{tk:Tok}{Q:Bool->Shared->Prop}(h:∀(r:Bool) h',SI prog w h' S (if n∈ns then ns else ns++[n])->A4 S s.heap h'->Q r {s with heap:=h'}):wpAny (model prog w) A (setAddHashed S (.int n tk) ((intKind prog w).hash n)) Q E s:=by
 obtain⟨o,es,ep,t,v,hex,hd,T,C,hp,Z,mk,wk⟩:=id X;have hf:=fits_of T;have M:(intKind prog w).is n (.int n tk)=true:=intKind_is _ _ _ _;have N:es.size=ns.length:=by have:=hp.length_eq;simpa using this
 have hb:es.size<scanBound:=by unfold scanBound;omega
 unfold setAddHashed setAddHashedIn;refine A0 (Aa (wpAny_setState_of v hd hf ?_));dsimp only;rw[byScan_of (knd:=intKind prog w) rfl hb C];simp only[↓reduceIte];unfold setAddByScan;refine Aa ?_;refine Aa (wpAny_rule ?_);refine Aa (wpAny_setScan_of M v hd hf C ?_);cases hr:List.findIdx? (fun e=>(intKind prog w).is n e.2) es.toList with
 |some j=>
  dsimp only;obtain⟨hj,uS,_⟩:=List.findIdx?_eq_some_iff_getElem.mp hr;have F:n∈ns:=by
   refine hp.mem_iff.mp (List.mem_map.mpr ⟨es.toList[j],List.getElem_mem hj,?_⟩);obtain⟨t',e⟩:=Value.isInt_shape uS;rw[e];rfl
  refine Ad (Ad ?_);have e:s={s with heap:=s.heap}:=by cases s;rfl
  have:=h false s.heap (by rw[if_pos F];exact X) (Heap.SameBut.refl _ _);exact this
 |none=>
  dsimp only;have G:n∉ns:=fun z=>by
   obtain⟨e,he,e2⟩:=List.mem_map.mp (hp.mem_iff.mpr z);obtain⟨m,t',e3⟩:=B8 C he;have:=List.findIdx?_eq_none_iff.mp hr e he;subst e3;obtain rfl:m=n:=e2;rw[intKind_is] at this;exact Bool.noConfusion this
  obtain⟨ne,he,hm,ef⟩:=HV T ((intKind prog w).hash n);have cE:(es.map (·.1)).size+1<=t.mask:=by
   rw[A3];rcases mk with ⟨a,b⟩|⟨a,b⟩<;>omega
  obtain⟨p1,p2,p3⟩:=yh T he hm cE;rw[A3] at p1;obtain⟨c,p,D⟩:∃c p,t.put (pos t.mask ((intKind prog w).hash n) ne)=(c,p):=⟨_,_,rfl⟩;have t_:c.led=t.led:=by
   have e1:c=(t.put (pos t.mask ((intKind prog w).hash n) ne)).1:=by rw[D]
   rw[e1];rfl
  have H:c.plain=t.plain:=by
   have e1:c=(t.put (pos t.mask ((intKind prog w).hash n) ne)).1:=by rw[D]
   rw[e1];rfl
  rw[D] at p1 p2 p3;dsimp only at p1 p2 p3;have I:(insertAt es p ((intKind prog w).hash n,Value.int n tk)).size=es.size+1:=k7 _ _ _ p1;have f:(insertAt es p ((intKind prog w).hash n,Value.int n tk)).map (·.1)=insertAt (es.map (·.1)) p ((intKind prog w).hash n):=ins_map (·.1) es p _ p1;have T1:Tb c ((insertAt es p ((intKind prog w).hash n,Value.int n tk)).map (·.1)):=by rw[f];exact p3
  have f1:=fits_of T1;have O:layNew t es ((intKind prog w).hash n) (.int n tk)=(insertAt es p ((intKind prog w).hash n,Value.int n tk),c,false,false):=by
   unfold layNew;rw[ef];dsimp only;rw[D];dsimp only;unfold SetTable.orStandIn;rw[f1]
   rfl
  have d:=layNew_perm t es ((intKind prog w).hash n) (.int n tk);rw[O] at d;rw[O];dsimp only at d ⊢;rw[Array.toList_push] at d;have P:ElemsOf (intKind prog w) (insertAt es p ((intKind prog w).hash n,Value.int n tk)).toList:=(C.push M rfl).perm d;have U:((insertAt es p ((intKind prog w).hash n,Value.int n tk)).toList.map fun e=>iv e.2).Perm (ns++[n]):=by
   refine(d.map _).trans ?_;rw[Au];exact hp.append_right _
  have g:(ns++[n]).Nodup:=by
   rw[List.nodup_append];refine⟨Z,by simp,fun x hx y hy=>?_⟩;rw[List.mem_singleton.mp hy];exact fun z=>G (z▸hx)
  have i:w.params.followText "set-order"=true\/(c.led=true/\c.plain=true):=by rw[t_,H];exact wk
  have l:(insertAt es p ((intKind prog w).hash n,Value.int n tk)).size<scanBound:=by rw[I];unfold scanBound;omega
  generalize insertAt es p ((intKind prog w).hash n,Value.int n tk)=ck at *;refine Aa (Ad ?_);have tail:wpAny (model prog w) A (storeSet S ck c >>= fun _=>if(!false&&c.tooFull)=true then(do
      (match (relayAll c ck (SetTable.grown ck.size)).2.2 with|true=>rule "set.scan.the-table-gave-way" |false=>pure ())
      storeSet S (relayAll c ck (SetTable.grown ck.size)).1 (relayAll c ck (SetTable.grown ck.size)).2.1
      pure (some true))
     else pure (some true)) (fun a s'=>wpAny (model prog w) A (match a with|some added=>pure added|none=>setAddHashedIn S (.int n tk) ((intKind prog w).hash n) 99999) Q E s') E s:=by
   refine Aa (wpAny_storeSet_of v hd ?_ (fits_of_scanBound l));have J:=nO (es':=ck) (t':=c) v hd;have W:=A6 s.heap S (Obj.putSet ck c);have fl:c.fill=es.size+1:=by
    unfold SetTable.fill;rw[T1.dum,T1.size,A3,I]
    rfl
   have Y:c.tooFull=decide ((es.size+1)*5 ≥ t.mask*3):=by unfold SetTable.tooFull;rw[fl,p2]
   by_cases q:(es.size+1)*5 ≥ t.mask*3
   ·rw[Y,decide_eq_true q]
    simp only[Bool.not_false,Bool.and_self,if_true];have h5:es.size+1=5/\t.mask=7:=by rcases mk with ⟨a,b⟩|⟨a,b⟩<;>omega
    obtain⟨L,t3,r1,r2,r3,r4,r5⟩:=HW (t:=c) (es:=ck) (want:=SetTable.grown ck.size) (m2:=31) (by rw[I,h5.1];decide +kernel) hG rfl ω;have u:=relayAll_perm c ck (SetTable.grown ck.size);rw[r1] at u ⊢;dsimp only at u ⊢;have mx:L.size=ck.size:=by rw[<-Af,u.length_eq,Af]
    refine Aa (Ad ?_);refine Aa (wpAny_storeSet_of J rfl ?_ (fits_of_scanBound (by rw[mx];exact l)));refine Ad (Ad (h true _ ?_ (W.trans (A6 _ S _))));rw[if_neg G];exact⟨_,L,ep+1+1,t3,nO J rfl,hex,rfl,r5,P.perm u,(u.map _).trans U,g,.inr ⟨r2,ω⟩,by rw[r3,r4];exact i⟩
   ·rw[Y,decide_eq_false q]
    simp only[Bd,Ai,if_false];have sV:(c.mask=7/\ck.size<=4)\/(c.mask=31/\ck.size<=18):=by
     rcases mk with ⟨a,b⟩|⟨a,b⟩
     ·left;omega
     ·right;omega
    refine Ad (Ad (h true _ ?_ W));rw[if_neg G];exact⟨_,ck,ep+1,c,J,hex,rfl,T1,P,U,g,sV,i⟩
  cases hpl:c.plain with
  |true=>
   simp only[if_true];refine Aa ?_;rw[hashByValue_scannable 8 rfl];refine Ad ?_;simp only[plainKind,if_true];exact tail
  |false=>
   simp only[Ai,if_false];refine Aa (Ad ?_);simp only[if_true];exact tail
end
end STb
end
section
namespace STb
open PySem PySem.SetTable PyProof.Rows
section
variable{prog:Program}{w:World}{A:Around}{R:Result->Shared->Prop}{I:Addr}{fp wr:List Addr}{G:Array GenState->Array GenState->Prop}{n:Nat}{P:Nat->Value->Prop}{St:Nat->Shared->Prop}
def HY(W:WalksS prog w A.in1 I fp wr G n P St)(S:Addr)(f:S∉fp)(val:Nat->Int)(g:∀i v,P i v->∃t,v=.int (val i) t)(hb:n<=18):∀(k i:Nat)(s:Shared),n-i=k->i<=n->St i s->SI prog w s.heap S (firstMet val i)->
   (∀s',Moved (S::wr) G s s'->SI prog w s'.heap S (firstMet val n)->R (.ok (.ret .none)) s')->
   codeAny (model prog w) A (.builtin "set.update.loop" ⟨[.ref S,.ref I],[]⟩) R s:=by
 have c:S∉wr:=fun h=>f (W.sub _ h);have y:∀b∈wr,b∈S::wr:=fun b hb=>An _ hb;intro k
 induction k with
 |zero=>
  intro i s hk hi a l hR;have p:i=n:=ω
  subst p;refine codeAny_builtin F.entry_set_update_loop ?_;rw[Around.under_plainId F.plain_set_update_loop _];show wpAny _ A.in1 (pyNext (.ref I) >>= _) _ _ s;refine Aa (W.done s _ _ a fun s' hm=>?_);show wpAny _ A.in1 (ret Value.none) _ _ s';exact Ad (hR s' (hm.mono y) (l.keep fun o e=>hm.heap S o c e))
 |succ k ih=>
  intro i s hk hi a l hR;have d:i<n:=ω
  refine codeAny_builtin F.entry_set_update_loop ?_;rw[Around.under_plainId F.plain_set_update_loop _];show wpAny _ A.in1 (pyNext (.ref I) >>= _) _ _ s;refine Aa (W.item i s _ _ d a fun v s' C D hm=>?_);obtain⟨t,rfl⟩:=g i v C;have L:SI prog w s'.heap S (firstMet val i):=l.keep fun o e=>hm.heap S o c e;show wpAny _ A.in1 (holding [Value.int (val i) t] (setAdd S (.int (val i) t)) >>= _) _ _ s';refine Aa (A0 ?_);unfold setAdd;refine A0 ?_;refine Aa ((intKind prog w).pyHash (k:=val i) (intKind_is _ _ _ _) ?_);have M:(firstMet val i).length<18:=by have:=firstMet_length_le val i;omega
  refine HX (s:={s' with toks:=s'.toks+1}) L M fun r h' j u=>?_;have N:SI prog w h' S (firstMet val (i+1)):=by
   rw[firstMet_succ];unfold step_dedup
   by_cases q:val i∈firstMet val i
   ·rw[if_pos q] at j;rw[if_pos (List.any_eq_true.mpr ⟨_,q,by simp⟩)];exact j
   ·rw[if_neg q] at j;rw[if_neg fun z=>by obtain⟨x,hx,e⟩:=List.any_eq_true.mp z;exact q (eq_of_beq e▸hx)];exact j
  refine Ad ⟨plainId_quiet F.plain_set_update_loop _,ih (i+1) _ ω d (W.frame _ s' _ _ D (Nat.le_succ _) fun b hb o e=>?_) N fun E H J=>?_⟩
  ·rw[u.2 b (fun h:b=S=>f (by rw[<-h];exact hb))];exact e
  ·refine hR E (Moved.trans W.gtrans ((hm.mono y).then_heap (Nat.le_succ _) fun b o hb e=>?_) H) J
   rw[u.2 b (fun h:b=S=>hb (by rw[h];exact Aj))];exact e
end
section
variable{prog:Program}{w:World}{A:Around}{E:Ω}{s:Shared}
def HZ{l:Addr}{a:Array Value}{ns:List Int}{Q:Ω}(hh:A.handled=none)(hl:s.heap.IsList l a)(hi:IntsAre a.toList ns)(hb:a.size<=18)(h:∀(h':Heap)(tk:Nat),SI prog w h' s⁻¹ (dd ns)->
   (∀b o,b<s⁻¹->s.heap.get? b=some o->h'.get? b=some o)->Q (.ref s⁻¹) {s with heap:=h',toks:=tk}):
  wpAny (model prog w) A (call (.type "set") [.ref l]) Q E s:=by
 obtain⟨c,tl,mJ⟩:=F.called_set.mro;have iX:=F.called_set.made;have bB:=F.called_set.sub;have Z:firstMet (fun i=>ns.getD i 0) a.size=dd ns:=by
  have hn:a.size=ns.length:=by rw[<-Af];exact hi.length
  rw[hn,HS ns _ (Ag _),List.take_length]
 refine wpAny_call (codeAny_of_tree ?_);show wpAny _ _ (callAny (.type "set") _) _ _ _;refine Ad ⟨Code.quiet_builtin _ δ,codeAny_builtin F.entry_type_call ?_⟩;rw[Around.under_plain (weight_type_call_type "set" [.ref l] []) rfl];have h1:=F.called_set.notType;have h2:=F.called_set.canCreate;have pE:=F.typeCall_set_1 (.ref l)
 repeat(any_goals(first|assumption|wp_step))
 refine codeAny_mono (ym (.ref l) (E:=E) (Q₁:=fun obj D=>∃led:Bool,(w.params.followText "set-order"=true\/led=true)/\obj=.ref s⁻¹/\D={s with heap:=s.heap.push {cls:=.type "set",dict:=none,data:=.set #[] 0 (.fresh 0 0 led)}}) ⟨_,by cases w.params.followText "set-order" <;> simp,rfl,rfl⟩) fun r D hr=>?_;cases r with
 |error e=>exact hr
 |ok fl=>
  cases fl with
  |ret obj=>
   obtain⟨led,S,rfl,rfl⟩:=hr;have L:(s.heap.push {cls:=.type "set",dict:=none,data:=.set #[] 0 (.fresh 0 0 led)}).get? s⁻¹=some {cls:=.type "set",dict:=none,data:=.set #[] 0 (.fresh 0 0 led)}:=Av _ rfl;have nw:Shared.TypeIs {s with heap:=s.heap.push {cls:=.type "set",dict:=none,data:=.set #[] 0 (.fresh 0 0 led)}} (.ref s⁻¹) "set":=⟨_,L,rfl⟩;have uJ:=F.called_set.init.lookup;have uh:=F.called_set.init.bind (.ref s⁻¹)
   repeat(any_goals(first|assumption|wp_step))
   refine codeAny_mono (codeAny_call_builtin (R:=wants (fun r G=>r=.none/\∃h' tk,G={s with heap:=h',toks:=tk}/\
     SI prog w h' s⁻¹ (dd ns)/\
     (∀b o,b<s⁻¹->s.heap.get? b=some o->h'.get? b=some o)) E) F.called_set.init.plain F.entry_set_init (check_set_init_1 nw ?_)) fun O G q=>?_
   ·obtain⟨T,I,d,u,J⟩:=hl
    obtain⟨mX,U,i3,W⟩:=T;simp only at d J;subst d;subst J;have M:(s.heap.push {cls:=.type "set",dict:=none,data:=.set #[] 0 (.fresh 0 0 led)}).get? l=some {cls:=.type "list",dict:=U,data:=.seq a u,slots:=W}:=Ac _ I;have mP:=F.sub_list_set;have kH:=F.sub_list_frozenset;have hne:(Value.type "list" == Value.type "dict")=false:=ξ
    have x:(s.heap.push {cls:=.type "set",dict:=none,data:=.set #[] 0 (.fresh 0 0 led)}).IsList l a:=⟨_,M,rfl,u,rfl⟩;unfold Builtin.«set.__init__» noKeywords Builtin.Frozenset.updateFrom;generalize hPI:pyIter=PI
    wp_walk
    subst hPI;refine wpAny_pyIter_list x ?_;refine Aa (wpAny_runValue ?_);have N:l<s⁻¹:=Ah I;have ld:A.in1.in1.in1.handled=none:=by simp[hh]
    have f:l≠(s.heap.push {cls:=.type "set",dict:=none,data:=.set #[] 0 (.fresh 0 0 led)}).objs.size:=by
     rw[Bi];exact Al (AF N)
    have y:s⁻¹∉[(s.heap.push {cls:=.type "set",dict:=none,data:=.set #[] 0 (.fresh 0 0 led)}).objs.size,l]:=by
     rw[Bi];simp only[List.mem_cons,List.mem_singleton,List.not_mem_nil,or_false,not_or];exact⟨Al (Nat.lt_succ_self _),Nat.ne_of_gt N⟩
    have g:∀(i:Nat)(v:Value),a[i]?=some v->∃t,v=.int ((fun i=>ns.getD i 0) i) t:=fun i v P=>
     PyProof.Rows.IntsAre.int_at hi i v (by rw[AD];exact P)
    refine HY ((Walks.list ld _ l f a).toS) s⁻¹
     y (fun i=>ns.getD i 0) g hb (a.size-0) 0 _ ω (AW _)
     ⟨⟨_,Av _ rfl,rfl,rfl⟩,⟨_,Ac _ M,rfl,u,rfl⟩⟩ ?hS0 ?hR
    case hS0=>
     have j:∀H,((s.heap.push {cls:=.type "set",dict:=none,data:=.set #[] 0 (.fresh 0 0 led)}).push H).get? s⁻¹
      =some {cls:=.type "set",dict:=none,data:=.set #[] 0 (.fresh 0 0 led)}:=fun H=>Ac _ L
     exact⟨_,#[],0,.fresh 0 0 led,j _,⟨rfl,rfl,rfl⟩,rfl,(by simpa using yi 0 0 led),fun e he=>by simp at he,List.Perm.refl _,List.nodup_nil,.inl ⟨rfl,AW _⟩,S.imp id fun z=>⟨z,rfl⟩⟩
    case hR=>
     intro s' hm p;obtain⟨h',g',d',X,Y⟩:=s';have eg:g'=s.gens:=hm.gens;have ed:d'=s.drawn:=hm.drawn;have eo:Y=s.os:=hm.os;subst eg;subst ed;subst eo;show wpAny _ _ _ _ _ _;refine Ad ?_;show wpAny _ _ (ret Value.none) _ _ _;rw[Z] at p;refine Ad ⟨rfl,h',X,rfl,p,fun b o hb e=>?_⟩;have C:b≠s⁻¹:=Al hb;have eP:b≠(s.heap.push {cls:=.type "set",dict:=none,data:=.set #[] 0 (.fresh 0 0 led)}).objs.size:=by
      rw[Bi];exact Al (AF hb)
     exact hm.heap b o (by simp only[List.mem_cons,List.mem_singleton,List.not_mem_nil,or_false,not_or];exact⟨C,eP⟩) (Ac _ (Ac _ e))
   ·cases O with
    |error e=>exact q
    |ok fl₂=>
     cases fl₂ with
     |ret r=>
      obtain⟨rfl,h',tk,rfl,p,hk'⟩:=q
      repeat(any_goals(first|assumption|wp_step))
      exact h _ _ p hk'
     |_=>exact q.elim
  |_=>exact hr.elim
end
end STb
namespace L2
open PySem PySem.Spec PyProof.Rows
def eL(P:Program)(w:World)(D:Addr)(ns:List Int):HO:=.ext fun h=>STb.SI P w h D ns
section
variable{X:Cx}
def H0{P:Program}{w:World}{H:Hp}{h:Heap}{D:Addr}{ns:List Int}(x:STb.SI P w h D ns):zQ P w H h D (eL P w D ns):=
 ⟨x,(let ⟨o,_,_,_,h1,_⟩:=x;⟨o,h1⟩),fun h1 h2 y a=>y.keep fun o e=>a o e⟩
def H_{aa:Ψ}{s:Shared}{σ:St}{H:Hp}{D:Addr}{ns:List Int}(I:Inv X aa σ H s)(e:H D=some (eL X.prog X.w D ns)):STb.SI X.prog X.w s.heap D ns:=
 (show zQ X.prog X.w H s.heap D (eL X.prog X.w D ns) from I.hok D _ e).1
def Ia(hc:X.calm=true):dg X (.type "set") (fun xs H Q=>∃(l:Addr)(ns:List Int),xs=[.ref l]/\SqL X.K H l (ns.map V.int)/\ns.length<=18/\
  ∀D,H D=none->Q (.ref D) (upd H D (eL X.prog X.w D (STb.dd ns)))):=by
 intro aa s σ H xs us Q I r h;obtain⟨l,ns,rfl,hq,g,q⟩:=h;obtain⟨u,rfl,d⟩:=vals1 r;cases d;obtain⟨f,a,p1,_⟩:=I.list hq;have hi:=intsAre_of a;have i:f.length=ns.length:=by simpa using (Paired.length a).symm
 refine STb.HZ (ns:=ns) (I.ok.hd hc) p1.isList (by simpa using hi) (by rw[Am];omega) fun h' tk T c=>?_;exact⟨.ref s⁻¹,_,I.laid (o:=eL X.prog X.w s⁻¹ (STb.dd ns)) (fun b u e=>c b u (Ah e) e) (Ag _) (H0 T),rfl,q _ (I.hok.fresh (Ag _))⟩
end
end L2
end
section
namespace STb
open PySem PySem.SetTable PyProof.Rows
def ord(w:World)(S:Addr)(ep:Nat)(es:Array (Int×Value)):Array (Int×Value):=if w.params.followText "set-order"=true then pickOrder (w.params.setOrder S ep) es else es
def wg(w:World)(S:Addr)(ep:Nat)(es:Array (Int×Value)):(ord w S ep es).toList.Perm es.toList:=by
 unfold ord;split
 ·obtain⟨l,h1,h2⟩:=wf (w.params.setOrder S ep) es.size 0 es.toList #[] (by simp)
  have:(pickOrder (w.params.setOrder S ep) es).toList=l:=by simpa[pickOrder] using h2
  rw[this];exact h1
 ·exact List.Perm.refl _
def Ib{xs:Array Nat}(hr:Ris xs):below xs 0=0:=by
 obtain⟨h1,h2,_⟩:=k4 hr 0;rcases Nat.eq_zero_or_pos (below xs 0) with e|e
 ·exact e
 ·have hx:(0:Nat)<xs.size:=ω
  exact absurd (h2 0 xs[0] (getElem?_pos xs 0 hx) e) (Nat.not_lt_zero _)
def Ie{xs:Array Nat}(hr:Ris xs){i j:Nat}(e:xs[i]?=some j):below xs (j+1)=i+1:=by
 obtain⟨h1,h2,c⟩:=k4 hr (j+1);have hi:i<xs.size:=(Array.getElem?_eq_some_iff.mp e).1;rcases Nat.lt_trichotomy (below xs (j+1)) (i+1) with q|q|q
 ·have:=c i j e ω;omega
 ·exact q
 ·have hx:i+1<xs.size:=ω
  have a:=h2 (i+1) xs[i+1] (getElem?_pos xs (i+1) hx) q;have b:=hr i (i+1) j xs[i+1] e (getElem?_pos xs (i+1) hx) ω;omega
def B9:Manifest.owners.lookup (String.ofList ['r','o','t','a','r','e','t','i','_','t','e','s'].reverse)=some Manifest.sig_set_iterator:=by kernel_rfl
def zY:Slot "set_iterator" "__next__" "set_iterator.__next__":=
 .of (owner:="set_iterator") (n:="__next__") (by rw[typeLookup_type,builtinLookup_eq_fast];kernel_rfl) δ δ δ
  (by first|exact .inl δ|exact .inr δ) (by rw[isSubtype_type];kernel_rfl)
def B_:entryFor table "set_iterator.__next__"=some Builtin.«set_iterator.__next__»:=entryFor_of_tree (by kernel_rfl)
def B'(a:Value):argsOk "set_iterator.__next__" ⟨[a],[]⟩:=by
 unfold argsOk;rw[signature?_of (id:="set_iterator.__next__") (n:=['_','_','t','x','e','n','_','_']) (o:=['r','o','t','a','r','e','t','i','_','t','e','s']) (by kernel_rfl) B9];kernel_rfl
def Cd:Slot "set_iterator" "__iter__" "set_iterator.__iter__":=
 .of (owner:="set_iterator") (n:="__iter__") (by rw[typeLookup_type,builtinLookup_eq_fast];kernel_rfl) δ δ δ
  (by first|exact .inl δ|exact .inr δ) (by rw[isSubtype_type];kernel_rfl)
def Ig:entryFor table "set_iterator.__iter__"=some Builtin.«dict_keyiterator.__iter__»:=
 entryFor_alias (id':="dict_keyiterator.__iter__") (by kernel_rfl) (by first|rfl|decide +kernel|(unfold String.splitOn;simp +decide [String.splitOnAux])) δ (by kernel_rfl)
def Ih(a:Value):argsOk "set_iterator.__iter__" ⟨[a],[]⟩:=by
 unfold argsOk;rw[signature?_of (id:="set_iterator.__iter__") (n:=['_','_','r','e','t','i','_','_']) (o:=['r','o','t','a','r','e','t','i','_','t','e','s']) (by kernel_rfl) B9];kernel_rfl
def Ii:entryFor table "set.__iter__"=some Builtin.«frozenset.__iter__»:=
 entryFor_alias (id':="frozenset.__iter__") (by kernel_rfl) rfl δ (by kernel_rfl)
def Cf(h:Heap)(I S:Addr)(slot i n ep:Nat):Prop:=h.get? I=some {cls:=.type "set_iterator",dict:=none,data:=.fields #[.int slot 0,.int i 0,.ref S,.int n 0,.int ep 0],slots:=#[]}
section
variable{prog:Program}{w:World}{A:Around}{E:Ω}{s:Shared}{I S:Addr}{o:Obj}{es:Array (Int×Value)}{ep:Nat}{t:SetTable}
def Cj{slot i:Nat}{Q:Option (Value×Nat)->Shared->Prop}(d:s.heap.get? S=some o)(hd:o.data=.set es ep t)(T:Tb t (es.map (·.1)))(j:w.params.followText "set-order"=true\/(t.led=true/\t.plain=true))(hb:w.params.followText "set-order"≠true->below t.place slot=i)(h:∀r,(∀e,(ord w S ep es)[i]?=some e->∃nx,r=some (e.2,nx)/\(w.params.followText "set-order"≠true->below t.place nx=i+1))->((ord w S ep es)[i]?=none->r=none)->Q r s):wpAny (model prog w) A (setNext S slot i ep) Q E s:=by
 have c:=fits_of T;have hsz:t.place.size=es.size:=by rw[T.size,A3]
 unfold setNext;refine Aa (wpAny_setState_of d hd c ?_);dsimp only;refine Aa (m:=setsByText) ?_;unfold setsByText;refine Aa (wpAny_askSetting (Ad ?_))
 by_cases q:w.params.followText "set-order"=true
 ·show wpAny _ _ (if w.params.followText "set-order"=true then _ else _) _ _ _
  rw[if_pos q,if_neg (by simp)];refine Aa ?_;unfold setWalk;refine Aa (wpAny_setState_of d hd c ?_);dsimp only;refine Aa (m:=setsByText) ?_;unfold setsByText;refine Aa (wpAny_askSetting (Ad ?_));show wpAny _ _ (if w.params.followText "set-order"=true then _ else _) _ _ _;rw[if_pos q];refine Aa (wpAny_askSetting ?_);refine Ad (Ad (h _ (fun e he=>?_) fun he=>?_))
  ·have a:(pickOrder (w.params.setOrder S ep) es)[i]?=some e:=by unfold ord at he;rw[if_pos q] at he;exact he
   exact⟨slot,by show Option.map _ (pickOrder (w.params.setOrder S ep) es)[i]?=_;rw[a];rfl,fun z=>absurd q z⟩
  ·have a:(pickOrder (w.params.setOrder S ep) es)[i]?=none:=by unfold ord at he;rw[if_pos q] at he;exact he
   show Option.map _ (pickOrder (w.params.setOrder S ep) es)[i]?=_;rw[a];rfl
 ·show wpAny _ _ (if w.params.followText "set-order"=true then _ else _) _ _ _
  rw[if_neg q];obtain⟨f,w2⟩:=j.resolve_left q;have g:ord w S ep es=es:=by unfold ord;rw[if_neg q]
  rw[g] at h;show wpAny _ _ (if(!t.plain&&decide (es.size>1))=true then _ else _) _ _ _;rw[w2];simp only[Bool.not_true,Bool.false_and,Ai,if_false];show wpAny _ _ ((if(!t.led&&!es.isEmpty)=true then _ else _) >>= _) _ _ _;rw[f];simp only[Bool.not_true,Bool.false_and,Ai,if_false];refine Aa (Ad ?_);rw[hb q];refine Ad (h _ (fun e he=>?_) fun he=>?_)
  ·have hi:i<t.place.size:=by rw[hsz];exact(Array.getElem?_eq_some_iff.mp he).1
   have hp:t.place[i]?=some (t.place[i]'hi):=Array.getElem?_eq_getElem hi;rw[he,hp];exact⟨(t.place[i]'hi)+1,rfl,fun _=>Ie T.ris hp⟩
  ·rw[he]
def Ij(L:A.handled=none)(q:S≠I)(hd:o.data=.set es ep t)(T:Tb t (es.map (·.1)))(F:w.params.followText "set-order"=true\/(t.led=true/\t.plain=true)):Walks prog w A I [I,S] [I] es.size (fun i v=>((ord w S ep es)[i]?).map (·.2)=some v) (fun i h=>(∃slot,Cf h I S slot i es.size ep/\(w.params.followText "set-order"≠true->below t.place slot=i))/\h.get? S=some o) where
 sub:=fun b hb=>by simp at hb;simp[hb]
 frame:=fun _ _ _ st hk=>by
  obtain⟨⟨slot,a,b⟩,c⟩:=st;exact⟨⟨slot,hk I (by simp) _ a,b⟩,hk S (by simp) _ c⟩
 item:=fun i s Q E hi st l=>by
  obtain⟨hp,g,p,tk,os⟩:=s;obtain⟨⟨slot,d,hb⟩,j⟩:=st;have f:Shared.TypeIs ⟨hp,g,p,tk,os⟩ (.ref I) "set_iterator":=⟨_,d,rfl⟩;unfold pyNext;refine Aa (wpAny_attempt (wpAny_callSpecial?_slot (name:=Str.ofString "__next__") f zY (Ba zY f B_ ?_ (B' _))));unfold Builtin.«set_iterator.__next__»;refine Aa (Ad ?_);refine Aa (wpAny_fieldsOf d rfl ?_);dsimp only;refine Aa (wpAny_setEntries_of j hd (fits_of T) ?_);rw[if_neg (by simp)]
  try dsimp only
  refine Aa ?_;rw[Int.toNat_natCast,Int.toNat_natCast,Int.toNat_natCast];have hsz:(ord w S ep es).size=es.size:=by rw[<-Af,(wg w S ep es).length_eq,Af]
  have he:(ord w S ep es)[i]?=some (ord w S ep es)[i]:=getElem?_pos _ _ (by rw[hsz];exact hi);refine Cj (s:=⟨hp,g,p,tk,os⟩) j hd T F hb fun r h1 _=>?_;obtain⟨nx,rfl,J⟩:=h1 _ he;dsimp only;refine Aa (wpAny_setField_rec d (by simp) fun y G u=>?_);replace u:A4 I hp y:=u;refine Aa (wpAny_setField_rec G (by simp) fun C H x=>?_);replace x:A4 I y C:=x;refine Ad ⟨_,rfl,Ad (l _ C tk (by rw[he];rfl) ⟨⟨nx,?_,J⟩,x.extBut _ _ q (u.extBut _ _ q j)⟩ fun b o hb e=>?_)⟩
  ·unfold Cf
   have e:((i+1:Nat):Int)=(i:Int)+1:=ω
   rw[e]
   simpa[rawInt] using H
  ·have D:b≠I:=fun z=>hb (by simp[z])
   exact x.extBut b o D (u.extBut b o D e)
 done:=fun s Q E st l=>by
  obtain⟨hp,g,p,tk,os⟩:=s;obtain⟨⟨slot,d,hb⟩,j⟩:=st;have f:Shared.TypeIs ⟨hp,g,p,tk,os⟩ (.ref I) "set_iterator":=⟨_,d,rfl⟩;unfold pyNext;refine Aa (wpAny_attempt (wpAny_callSpecial?_slot (name:=Str.ofString "__next__") f zY (Ba zY f B_ ?_ (B' _))));unfold Builtin.«set_iterator.__next__»;refine Aa (Ad ?_);refine Aa (wpAny_fieldsOf d rfl ?_);dsimp only;refine Aa (wpAny_setEntries_of j hd (fits_of T) ?_);rw[if_neg (by simp)]
  try dsimp only
  refine Aa ?_;rw[Int.toNat_natCast,Int.toNat_natCast,Int.toNat_natCast];have hsz:(ord w S ep es).size=es.size:=by rw[<-Af,(wg w S ep es).length_eq,Af]
  have he:(ord w S ep es)[es.size]?=none:=Array.getElem?_eq_none ω;refine Cj (s:=⟨hp,g,p,tk,os⟩) j hd T F hb fun r _ h2=>?_;obtain rfl:=h2 he;dsimp only;refine Aa (wpAny_setField d rfl (by simp) ?_);refine Aa ?_;simp only[newExc,newTuple];refine Aa (AS ?_ (by size_fits));refine Aa (m:=firstArgMember _ _) (wpAny_of_eq (a:=Value.none) (by first|rfl|(simp only[firstArgMember];rfl)) ?_);refine AS ?_ (by size_fits);simp only[raiseNew];refine Aa (wpAny_handled ?_);rw[show A.in1.handled=none from L];refine Aa (Ad (wpAny_throw ?_));refine Aa (wpAny_isInstance (T:="StopIteration") (b:=true) ⟨_,Av _ rfl,rfl⟩ isSubtype_stop ?_);exact Ad (l _ tk fun b o hb e=>(((A6 ..).extBut.push _).push _) b o (fun h=>hb (by simp[h])) e)
 self:=fun i s Q E st l=>by
  obtain⟨⟨slot,d,hb⟩,j⟩:=st;have f:s.TypeIs (.ref I) "set_iterator":=⟨_,d,rfl⟩;refine wpAny_pyIter_slot f Cd (Ba Cd f Ig ?_ (Ih _));show wpAny _ _ (ret (.ref I)) _ _ s;exact Ad ⟨_,rfl,"set_iterator",_,f,zY.lookup,l⟩
def Il{Q:Ω}(a:s.heap.get? S=some o)(hex:o.ExactSet)(hd:o.data=.set es ep t)(T:Tb t (es.map (·.1)))(f:w.params.followText "set-order"=true\/(t.led=true/\t.plain=true))(h:Q (.ref s⁻¹) {s with heap:=s.heap.push {cls:=.type "set_iterator",data:=.fields #[.int 0 0,.int 0 0,.ref S,.int es.size 0,.int ep 0]}}):wpAny (model prog w) A (pyIter (.ref S)) Q E s:=by
 have d:s.TypeIs (.ref S) "set":=⟨o,a,hex.1⟩;have c:=fits_of T;refine wpAny_pyIter_slot d PySem.F.slot_set_iter (Ba PySem.F.slot_set_iter d Ii ?_ (PySem.F.args_set_iter_1 _));unfold Builtin.«frozenset.__iter__»;refine Aa (Aa (Ad (Ad ?_)));unfold Builtin.Frozenset.sizeOf;refine Aa (Aa (wpAny_setEntries_of a hd c (Ad ?_)));refine Aa ?_;unfold setDrawn;refine Aa (wpAny_setState_of a hd c ?_);dsimp only;refine Aa (m:=setsByText) ?_;unfold setsByText;refine Aa (wpAny_askSetting (Ad ?_));show wpAny _ _ (pure (!w.params.followText "set-order" && (!t.plain&&decide (es.size>1)))) _ _ _;have g:(!w.params.followText "set-order" && (!t.plain&&decide (es.size>1)))=false:=by
  rcases f with e|⟨_,e⟩<;>rw[e]<;>simp
 rw[g];refine Ad ?_;simp only[Ai,if_false];refine Aa (Ad ?_);refine Aa (wpAny_setEpoch_of a hd c ?_);unfold newFields;refine Aa (AS (Ad ⟨_,rfl,"set_iterator",_,⟨_,Av _ rfl,rfl⟩,zY.lookup,?_⟩) (by size_fits))
 simpa[rawInt] using h
def Im{Q:Bool->Shared->Prop}(c:s.TypeIs (.ref S) "set")(h:Q false s):wpAny (model prog w) A (Builtin.List.listLengthHint (.ref S)) Q E s:=by
 unfold Builtin.List.listLengthHint;refine Aa (wpAny_specialOf c PySem.F.slot_set_len.lookup ?_);generalize hid:("set.__len__":String)=id0
 wp_delta
 rw[show splitId id0=some ("set","__len__") from by subst hid;decide +kernel];subst hid;refine Aa (wpAny_isInstance (T:="set") (b:=true) c (by rw[isSubtype_type];kernel_rfl) ?_);refine wpAny_ite_split (fun a=>absurd a ξ) (fun _=>?_);refine wpAny_ite_split (fun _=>?_) (fun a=>absurd δ a);refine Aa (wpAny_typeOf c ?_);exact Ad h
end
end STb
end
section
namespace STb
open PySem PySem.SetTable PyProof.Rows bu PySem.W
section
variable{prog:Program}{w:World}{A:Around}{E:Ω}{s:Shared}{S:Addr}
def Io{o:Obj}{es:Array (Int×Value)}{ep:Nat}{t:SetTable}(hex:o.ExactSet)(hd:o.data=.set es ep t)(T:Tb t (es.map (·.1)))(a:w.params.followText "set-order"=true\/(t.led=true/\t.plain=true)):KdlSrc prog w "set" S S es.size (fun i v=>((ord w S ep es)[i]?).map (·.2)=some v) (fun h=>h.get? S=some o) where
 type:=fun s h=>⟨o,h,hex.1⟩
 there:=fun h e=>⟨Ah e,Ah e⟩
 keep:=fun h h' e k=>k S (.inl rfl) _ e
 notList:=ξ
 notTuple:=ξ
 hint:=fun A E s Q h q=>Im ⟨o,h,hex.1⟩ q
 iter:=fun A s c h=>⟨_,_,fun E Q q=>Il h hex hd T a q,Ij (o:=o) c (Al (Ah h)) hd T a,⟨⟨0,Av _ rfl,fun _=>Ib T.ris⟩,Ac _ h⟩⟩
def Ip{T:String}{r d:Addr}{n:Nat}{P:Nat->Value->Prop}{j:Heap->Prop}{R:List Value->Shared->Prop}(K:KdlSrc prog w T r d n P j)(p:A.handled=none)(i:j s.heap)(u:n<=sizeLine)(h:∀(h':Heap)(tk:Nat)(acc:Array Value),s⁻¹<=h'.objs.size->(∀b o,s.heap.get? b=some o->h'.get? b=some o)->ItemsOf P acc n->R acc.toList {s with heap:=h',toks:=tk}):wpAny (model prog w) A (collect (.ref r)) R E s:=by
 obtain⟨hr,hd⟩:=K.there _ i;unfold collect;refine Aa (wpAny_runValue (codeAny_builtin entry_proto_collect' ?_));rw[Around.under_plainId PySem.F.plain_proto_collect _];show wpAny _ A.in1 (do again (.builtin "list.__iadd__" ⟨[<-newList [],.ref r],[]⟩)) _ _ s;refine Aa (AS (Ad ⟨plainId_quiet PySem.F.plain_list_iadd _,codeAny_builtin entry_list_iadd' ?_⟩));rw[Around.under_plainId PySem.F.plain_list_iadd _];show wpAny _ A.in1 (Builtin.List.listExtendWith (.ref s⁻¹) (.ref r) (.ref s⁻¹)) _ _ _;have fin:∀(h':Heap)(tk:Nat)(acc:Array Value)(c:Nat),(∀b o,s.heap.get? b=some o->h'.get? b=some o)->h'.get? s⁻¹=some {cls:=.type "list",dict:=none,data:=.seq acc c,slots:=#[]}->ItemsOf P acc n->
   wpAny (model prog w) A (do match (<-load s⁻¹).data with
    |.seq xs _=>pure xs.toList
    |_=>unsupported "internal:collect") R E {s with heap:=h',toks:=tk}:=fun h' tk acc c hk a g=>Aa (wpAny_load a (Ad (h h' tk acc (Nat.le_of_lt (Ah a)) hk g)))
 refine Bb (kdl_extend (A:=A) (s:={s with heap:=s.heap.push {cls:=.type "list",data:=.seq ([]:List Value).toArray}})
  (R:=fun q s'=>∃h' tk acc c,q=Except.ok (Flow.ret (.ref s⁻¹))/\s'={s with heap:=h',toks:=tk}/\(∀b o,s.heap.get? b=some o->h'.get? b=some o)/\h'.get? s⁻¹=some {cls:=.type "list",dict:=none,data:=.seq acc c,slots:=#[]}/\ItemsOf P acc n)
  K p (K.keep _ _ i fun b _ o e=>Ac _ e) s⁻¹ (Nat.ne_of_gt hr) (Nat.ne_of_gt hd) (.ref s⁻¹) 0 (Av _ rfl)
  (fun h' tk acc c hk a g=>⟨h',tk,acc,c,rfl,rfl,fun b o e=>hk b o (Al (Ah e)) (Ac _ e),a,g⟩) u) (fun f s' x=>?_) fun e s' x=>?_
 ·cases f with
  |done f=>
   obtain⟨h',tk,acc,c,e,rfl,hk,a,g⟩:=x;cases e;exact fin h' tk acc c hk a g
  |again c₁=>
   refine⟨x.1,codeAny_mono x.2 fun q v y=>?_⟩;obtain⟨h',tk,acc,c,rfl,rfl,hk,a,g⟩:=y;exact fin h' tk acc c hk a g
 ·obtain⟨_,_,_,_,l,_⟩:=x
  cases l
def Iq{ns:List Int}{Q:Ω}(G:A.handled=none)(X:SI prog w s.heap S ns)(h:∀(D:Addr)(h':Heap)(tk e:Nat)(r:List Value)(f:List Int)(out:Array Value),s⁻¹<=D->(∀b o,s.heap.get? b=some o->h'.get? b=some o)->h'.get? D=some (seqObj "list" out e)->IntsAre r f->f.Perm ns->Out (f.map fun n=>[n]) r out.toList->Q (.ref D) {s with heap:=h',toks:=tk}):wpAny (model prog w) A (call (.builtin "sorted") [.ref S]) Q E s:=by
 obtain⟨o,es,ep,t,y,hex,hd,T,z,hp,H,mk,C⟩:=id X;have I:es.size<=18:=by rcases mk with ⟨_,b⟩|⟨_,b⟩<;>omega
 refine Calls.call_function_entry kind_sorted plain_sorted entry_sorted (args_sorted1 _) ?_;unfold Builtin.«sorted»;refine Aa (m:=checkCount "sorted" 1 1 _) (Ad ?_);refine Aa (Ip (A:=A.in1) (Io (prog:=prog) (S:=S) hex hd T C) G y (by rw[sizeLine_eq];omega) fun h' tk acc u hk g=>?_);have i:=wg w S ep es;have hsz:(ord w S ep es).toList.length=es.size:=by rw[i.length_eq,Af]
 have F:acc.toList=(ord w S ep es).toList.map (·.2):=by
  apply List.ext_getElem?;intro j;rw[Ar,AD,AD];cases q:acc[j]? with
  |none=>
   have:es.size<=j:=by rw[<-g.1];exact Array.getElem?_eq_none_iff.mp q
   rw[Array.getElem?_eq_none (by rw[<-Af,hsz];exact this)]
   rfl
  |some v=>exact(g.2 j v q).symm
 have a:ElemsOf (intKind prog w) (ord w S ep es).toList:=z.perm i;have hi:IntsAre acc.toList ((ord w S ep es).toList.map fun e=>iv e.2):=by
  rw[F];generalize (ord w S ep es).toList=l at a
  induction l with
  |nil=>exact .nil
  |cons e l ih=>
   obtain⟨n,t',e1⟩:=B8 a Aj;subst e1;exact .cons n t' (ih a.tail)
 have d:((ord w S ep es).toList.map fun e=>iv e.2).Perm ns:=(i.map _).trans hp;generalize ((ord w S ep es).toList.map fun e=>iv e.2)=f at hi d;have p:acc.toList.length=es.size:=by rw[Af];exact g.1
 refine Aa (wpAny_newList ?_ (by rw[p,sizeLine_eq];omega));have c:(h'.push (seqObj "list" acc.toList.toArray 0)).get? h'.objs.size=some (seqObj "list" acc.toList.toArray 0):=Av _ rfl;refine Aa (A0 (Ba slot_list_sort ⟨_,c,rfl⟩ entry_list_sort (xJ (s:={s with heap:=h'.push (seqObj "list" acc.toList.toArray 0),toks:=tk}) (good:=fun _=>True) c (xF hi) (fun _ _=>trivial) (by rw[p,sizeLine_eq];omega) ω fun out x=>⟨_,rfl,?_⟩) (args_list_sort _)));obtain⟨e,he⟩:=sortedHeap_at (out:=out) c;refine Ad ⟨_,rfl,h h'.objs.size _ tk e acc.toList f out u (fun b o e=>?_) he hi d x⟩;have hb:b<h'.objs.size:=Ah (hk b o e);rw[sortedHeap_old (Al hb) (by rw[size_push'];exact AF hb)];exact Ac _ (hk b o e)
end
end STb
namespace L2
open PySem PySem.Spec PyProof.Rows
section
variable{X:Cx}
def Ir{ns:List Int}{a:List Value}{out:List Value}(hi:IntsAre a ns)(f:bu.Out (ns.map fun n=>[n]) a out):∃d:List Int,Vals (d.map V.int) out/\d.Perm ns/\d.Pairwise (·<=·):=by
 obtain⟨ps,hp,f,hs⟩:=f;have g:a.length=ns.length:=hi.length;have all:∀p∈ps,∃n t,p.1=[n]/\p.2=Value.int n t:=fun p j=>by
  obtain⟨i,e⟩:=List.mem_iff_getElem?.mp (hp.mem_iff.mp j);rw[bu.bK,Ar] at e;cases e1:ns[i]? with
  |none=>rw[e1] at e;simp at e
  |some n=>
   obtain⟨t,e2⟩:=hi.get i n e1;rw[e1,e2] at e;simp only[Option.map_some,Option.bind_some,Option.some.injEq] at e;subst e;exact⟨n,t,rfl,rfl⟩
 have o:∀ps:List (List Int×Value),(∀p∈ps,∃n t,p.1=[n]/\p.2=Value.int n t)->Vals ((ps.map fun p=>p.1.headD 0).map V.int) (ps.map (·.2)):=by
  intro ps
  induction ps with
  |nil=>intro _;exact .nil
  |cons p ps ih=>
   intro h;obtain⟨n,t,e1,e2⟩:=h p Aj;refine .cons ?_ (ih fun q hq=>h q (An _ hq));show RelV (V.int (p.1.headD 0)) p.2;rw[e1,e2];exact⟨t,rfl⟩
 refine⟨ps.map fun p=>p.1.headD 0,by rw[f];exact o ps all,?_,?_⟩
 ·have h1:=hp.map (fun p:List Int×Value=>p.1.headD 0)
  have e:((ns.map fun n=>[n]).zip a).map (fun p:List Int×Value=>p.1.headD 0)=ns:=by
   rw[show(fun p:List Int×Value=>p.1.headD 0)=(fun l:List Int=>l.headD 0) ∘ Prod.fst from rfl,<-AK,List.map_fst_zip (by rw[Ab];lia),AK];exact List.map_id' ns
  rw[e] at h1;exact h1
 ·rw[List.pairwise_map]
  refine hs.imp_of_mem fun{p q} h1 h2 c=>?_;obtain⟨n,t,e1,_⟩:=all p h1;obtain⟨m,t',e2,_⟩:=all q h2;rw[e1,e2,HT.zN] at c;rw[e1,e2];show n<=m
  by_cases e:m=n
  ·lia
  ·rw[if_neg e] at c
   have:=of_decide_eq_false c
   lia
def Iu(hc:X.calm=true):dg X (.builtin "sorted") (fun xs H Q=>∃(S:Addr)(ns:List Int),xs=[.ref S]/\H S=some (eL X.prog X.w S ns)/\∀(D:Addr)(a:List Int),a.Perm ns->a.Pairwise (·<=·)->H D=none->Q (.ref D) (upd H D (.lst (a.map V.int)))):=by
 intro aa s σ H xs us Q I r h;obtain⟨S,ns,rfl,hq,q⟩:=h;obtain⟨u,rfl,j⟩:=vals1 r;cases j;have f:=H_ I hq;refine STb.Iq (I.ok.hd hc) f fun D h' tk e y a out c g he hi hp i=>?_;obtain⟨ks,l,d,p⟩:=Ir hi i;have x:ks.length<=sizeLine:=by
  obtain⟨o,es,ep,t,_,_,_,_,_,v,_,mk,_⟩:=f;have hk:ks.length=es.size:=by simpa using d.length_eq.trans (hp.length_eq.trans v.length_eq.symm)
  rw[sizeLine_eq,hk];rcases mk with ⟨_,b⟩|⟨_,b⟩<;>omega
 refine⟨.ref D,_,I.laid (o:=.lst (ks.map V.int)) (fun b u e=>g b u e) c (show zQ X.prog X.w _ _ _ (.lst (ks.map V.int)) from⟨by rw[Ab];exact x,out.toList,e,l,by simpa using he⟩),rfl,q _ _ (d.trans hp) p (I.hok.fresh c)⟩
end
end L2
end
section
namespace L2
open PySem PySem.Spec PyProof.Rows
section
variable{X:Cx}
def wh(K:Ae):R2:=fun x y H Q=>∃l m ns a,x=.ref l/\y=.ref m/\SqL K H l (List.map V.int ns)/\SqL K H m (List.map V.int a)/\Q (.bl (!decide (ns=a))) H
def Iv(hu:X.A.units+64<cLine):bZ X (compareOp .NotEq) (wh X.K):=by
 intro aa s σ H x y v u Q I c d h;obtain⟨l,m,ns,a,rfl,rfl,f,hm,q⟩:=h;cases c;cases d;obtain⟨_,g⟩:=Bs I f;obtain⟨_,i⟩:=Bs I hm;refine ne_dataH_same g i (Bu _) (Bu _) hu (SeqAt.noMix_of_shape (.list .int) rfl _ _ (Bv _) (Bv _)) ?_;have e:same (.list (ns.map A5)) (.list (a.map A5))=decide (ns=a):=by simp only[same];exact PySem.W.ke_sameAll ns a
 rw[e];exact⟨.bl _,H,I,rfl,q⟩
end
section
variable{X:Cx}{scope:Scope}{N':List Str}{ap:List (Option Nat)}{tg iter aI:Expr}{aD:List Expr}{wi:TI}{g:TG}{tc:TT}{te:TE}{pos:Pos}
def Iw{i:Nat}{x:Str}{aH w:Pos}(hc:X.calm=true)(hk:scope.kind=.function)(F:∀y∈scope.names,y.2≠.cell)(P:∀y∈scope.names,y.2=.local->scope.names.lookup y.1=some .local)(hfr:∀y∈scope.names,y.2=.free->X.env.kindOf y.1=some .cell\/X.env.kindOf y.1=some .free)(Q:hF X.N N' ap scope)(hi:PI X tg iter wi)(S:∀d C s₀ H₀ ex,PG (cxC X scope N' d C s₀ H₀ ex) tg g)(ht:∀d C s₀ H₀ ex,dh (cxC X scope N' d C s₀ H₀ ex) aD tc)(he:∀d C s₀ H₀ ex,PE (cxC X scope N' d C s₀ H₀ ex) aI te)(hs:∀x,Be iter X.env x=pure x)(T:X.N.Nodup)(p:X.N[i]?=some x)(hx:Loc X.env.scope x)(hf:X.fn x=true\/X.env.scope.names.lookup x=some .local)(U:swapsWith (.ListComp aI [⟨tg,iter,aD,0⟩] scope pos) (some (.Name x aH)) w.line X.env=pure true):PS X (.Assign [.Name x aH] (.ListComp aI [⟨tg,iter,aD,0⟩] scope pos) w) (ff (er wi ap g tc te) (cm i)):=by
 intro aa s σ H D I h;rw[exec_Assign_Name_used _ _ _ _ U];refine Aa (wpAny_standAt (Aa ?_));show wpAny _ X.A (do let _ <-comprehension (.ListComp aI [⟨tg,iter,aD,0⟩] scope pos) scope X.env _ (newList []) (firstAsync [⟨tg,iter,aD,0⟩]) (firstIter [⟨tg,iter,aD,0⟩] X.env) (some (assign (.Name x aH) X.env))) _ _ s;refine Aa (Bb (xN (use:=some (assign (.Name x aH) X.env)) (R:=fun _ s'=>SP X aa D .next s') hc hk F P hfr Q hi S ht he hs I h fun E C H' r f L q=>?_) (fun _ s' hq=>Ad (Ad hq)) fun _ _ e=>e);show wpAny _ X.A (assign (.Name x aH) X.env (.ref E)) _ _ r;refine wpAny_assign_Name (o0 (v:=.ref E) (L.back r.heap (Heap.SameBut.refl _ _)) T p hx rfl (fun G I5 ⟨a,l,J⟩=>?_) hf);have O:C≠a:=by
  rcases J with e|e
  ·rw[e];exact L.nl
  ·exact fun z=>L.nc x a e z.symm
 obtain⟨m,M⟩:=L.ns;refine⟨m,M.sameBut l O,fun h' j=>⟨_,H',?_,q⟩⟩;refine I5.call' (s':={G with heap:=h'}) (ch:=[C]) rfl ⟨fun b o q n hb hx=>?_,fun b o q n hb hx=>?_,fun b o q n hx=>n,fun b o q hx=>?_,fun b xs q=>q,fun b o u q=>q,fun b ps q=>⟨#[],by simpa using q⟩⟩ ?_ I5.bare fun b hb=>?_
 ·exact(j.2 b (by simpa using hx)).trans q
 ·exact⟨o.slots,(j.2 b (by simpa using hx)).trans q⟩
 ·exact⟨o,(j.2 b (by simpa using hx)).trans q⟩
 ·intro b u e
  refine(I5.hok b u e).stay (fun c v hc q=>(j.2 c ?_).trans q) (fun _ q=>q) fun _ _ q=>q;rintro rfl;rcases hc with z|z
  ·rw[<-z,L.no] at e;cases e
  ·rw[L.no] at z;cases z
 ·have e:b=C:=by simpa using hb
  subst e;exact⟨.inr L.far,L.nl,L.nc,L.np⟩
end
section
variable{X:Cx}{scope:Scope}{ap:List (Option Nat)}{tg iter aI:Expr}{aD:List Expr}{wi:TI}{g:TG}{tc:TT}{te:TE}{pos:Pos}
def Ix{i:Nat}{x:Str}{aH d:Pos}(e:X.N.Nodup)(c:X.N[i]?=some x)(hx:Loc X.env.scope x)(N N':List Str)(ap:List (Option Nat))(hi:PI X tg iter wi)(f:∀a C s₀ H₀ ex,PG (cxC X scope N' a C s₀ H₀ ex) tg g)(ht:∀a C s₀ H₀ ex,dh (cxC X scope N' a C s₀ H₀ ex) aD tc)(he:∀a C s₀ H₀ ex,PE (cxC X scope N' a C s₀ H₀ ex) aI te)(hc:X.calm=true:=by rfl)(hk:scope.kind=.function:=by rfl)(h:∀y∈scope.names,y.2≠.cell:=by decide +kernel)(j:∀y∈scope.names,y.2=.local->scope.names.lookup y.1=some .local:=by decide +kernel)(hfr:∀y∈scope.names,y.2=.free->X.env.kindOf y.1=some .cell\/X.env.kindOf y.1=some .free)(l:X.N=N:=by rfl)(o:eC N N' ap scope=true:=by decide +kernel)(hs:∀x,Be iter X.env x=pure x:=by intro _;rfl)(hf:X.fn x=true\/X.env.scope.names.lookup x=some .local:=by first|exact .inl rfl|exact .inr rfl|assumption)(p:swapsWith (.ListComp aI [⟨tg,iter,aD,0⟩] scope pos) (some (.Name x aH)) d.line X.env=pure true:=by rfl):PS X (.Assign [.Name x aH] (.ListComp aI [⟨tg,iter,aD,0⟩] scope pos) d) (ff (er wi ap g tc te) (cm i)):=
 Iw hc hk h j hfr (lj (by rw[l];exact o)) hi f ht he hs e c hx hf p
end
end L2
end
section
namespace K8
open K1 Tx
open PySem L2 STb
abbrev wj:Stmt:=top 50
abbrev wl:Stmt:=top 51
abbrev Ck:TT:=jm (cV (fun x y H Q=>∃i j,x=.str i/\y=.str j/\Q (.bl (!(!(Builtin.Str.occurrences j i 0 j.length 1).isEmpty))) H) (aY 0) (tC (.str "0123456789")))
def bad(x:Str):List Nat:=x.cps.toList.filter fun c=>!dr c
def Cm{x:Str}:(0<(bad x).length)=¬(x.cps.toList.all dr=true):=by
 unfold bad;refine propext ⟨fun h a=>?_,fun h=>?_⟩
 ·obtain⟨c,hc⟩:=List.exists_mem_of_length_pos h
  obtain⟨h1,h2⟩:=List.mem_filter.mp hc;rw[List.all_eq_true.mp a c h1] at h2;cases h2
 ·apply Nat.pos_of_ne_zero
  intro z;refine h (List.all_eq_true.mpr fun c hc=>?_);have:=(List.filter_eq_nil_iff.mp (List.length_eq_zero_iff.mp z)) c hc
  simpa using this
section
variable{P:Program}{w:World}{K:Ae}{mg:Str->Option Value}{base:Heap}{f:Addr}{fd:FuncData}
def Iy{H2:Hp}{D:Addr}{x:Str}{Q:VK}(h2:x.length<=100)(h:H2 D=none)(k:∀a,Same H2 a->a D=some (.lst ((bad x).map fun c=>V.str ⟨#[c]⟩))->Q (.ref D) a):cw (jF x) (cm 0) Ck (aY 0) [none] H2 D Q:=by
 have hsz:x.cps.size=x.length:=rfl;refine tL (fun j σ ys a=>∃v:Option V,σ=[v]/\Same H2 a/\a D=some (.lst ys)/\ys=((x.cps.toList.take j).filter fun c=>!dr c).map fun c=>V.str ⟨#[c]⟩) ?_ ?_ ?_
 ·exact⟨none,rfl,Same.new h,am,rfl⟩
 ·rintro j σ ys a c hx f hy ⟨v,rfl,e,d,rfl⟩
  have g:x.cps.toList[j]?=some c:=by simpa using hx
  refine⟨_,rfl,_,_,rfl,rfl,_,rfl,?_⟩;rw[l8 c];cases hb:dr c with
  |true=>exact bg (eX f hy ⟨_,rfl,e,d,by rw[AN g,Bg];simp[hb]⟩)
  |false=>exact be ⟨_,rfl,bO (zd ω) f hy d ⟨_,rfl,e.then h,am,by rw[AN g,Bg,Au];simp[hb]⟩⟩
 ·rintro σ ys a ⟨v,rfl,e,d,rfl⟩
  rw[At (by simp)] at d;exact k a e d
def eM:Option Int->V
 |some i=>.int i
 |none=>.non
def fC(x:Str):Option Int:=if okN 2 x=true then some (valN x) else none
def wm:Sp:=fun vs H Q _=>∃x,vs=[.str x]/\x.length<=100000/\∀H',Same H H'->Q (eM (fC x)) H'
def Iz:zo ["word"] ["word"] (zf wj):=⟨rfl,rfl,rfl,δ,rfl,δ,δ⟩
def IA(F:Fun K "_law_point" "_law_point" wj f fd)(B:Bt mg):FnOk P w K mg base aT 1 f fd ["word"] wm:=by
 refine F.ok Iz (fun vs H Q E h=>?_) (fun cdv A outer s H vs Q E hr h=>?_)
 ·obtain⟨x,rfl,_⟩:=h;rfl
 ·obtain⟨x,rfl,I,k⟩:=h
  have q:x.length<=sizeLine:=zd I;refine⟨_,ze (zS (PW.pt (iq (gQ (pB iC iC zh (zm kC rfl B.len cP (ae (pv 0) aq)) zh)) (j_ (zq gU (zm zl rfl B.len cP (ae (zz ["word"] ["sign"] [none] (tH (pv 0)) (fun r C s₀ H₀ ex=>zn (i:=0) (cz ["sign"]) rfl (Or.inl rfl))
     (fun r C s₀ H₀ ex=>nk (zq Di (pv 0) pe_str (by with_unfolding_all rfl))) (fun r C s₀ H₀ ex=>pv 0) (hfr:=bP δ) (tc:=Ck)) aq)) zh (au _))))) (zg (zp im)) zt)
   (ze (zS (PW.pt (o_ (zq dI (zm kC rfl B.len cP (ae (pv 0) aq)) zh (au _)) (o9 (zq dI (cQ qu (pv 0) zh (fun _ _=>rfl)) pe_str (au _))))) (zg (zp im)) zt)
   (zg (zp (zw sk rfl B.int ul (ae (pv 0) aq))))),?_⟩
  have e:∀{H1:Hp},okN 2 x=false->Same H H1->Q .non H1:=fun hb l=>by
   have:=k _ l;unfold fC at this;rw[hb,if_neg ξ] at this;exact this
  have a:∀{H1:Hp},okN 2 x=true->Same H H1->Q (.int (valN x)) H1:=fun hb l=>by
   have:=k _ l;unfold fC at this;rw[hb,if_pos rfl] at this;exact this
  have u:Same H H:=Same.refl _;refine⟨_,rfl,_,rfl,q,_,_,rfl,rfl,_,rfl,?_⟩
  by_cases h1:(1:Int)<=(x.length:Int)
  rotate_left
  ·rw[decide_eq_false h1]
   exact bg ⟨_,rfl,be (e (by unfold okN;rw[decide_eq_false h1];rfl) u)⟩
  rw[decide_eq_true h1];refine be ⟨_,_,rfl,rfl,_,rfl,?_⟩
  by_cases h2:(x.length:Int)<=2
  rotate_left
  ·rw[decide_eq_false h2]
   exact be (e (by unfold okN;rw[decide_eq_false h2,Bool.false_and,Bd]) u)
  rw[decide_eq_true h2];refine bg ⟨_,rfl,_,rfl,fun D y=>zA (Iy ω y fun N d G=>⟨D,_,rfl,.inl (SqL.of G),_,_,rfl,rfl,_,rfl,?_⟩)⟩;rw[Ab];cases h3:x.cps.toList.all dr with
  |false=>
   have hp:0<(bad x).length:=by rw[Cm,h3];decide
   rw[decide_eq_true (show(0:Int)<((bad x).length:Int) from ω)];exact be (e (by unfold okN;rw[h3,Bool.false_and,Bd,Bd]) d)
  |true=>
   have hp:¬0<(bad x).length:=by rw[Cm,h3];decide
   have v:=v4 h3 ω h2 ξ;rw[decide_eq_false (show ¬(0:Int)<((bad x).length:Int) from ω)];refine bg ⟨_,rfl,_,rfl,q,rfl,_,rfl,bU (fun o=>?_) fun o=>?_⟩
   ·have M:(x.length:Int)=2:=by have:=of_decide_eq_true o;injection this
    have g:decide ((1:Int)<(x.length:Int))=true:=decide_eq_true ω;obtain⟨c,p⟩:∃c,x.cps.toList[0]?=some c:=⟨_,Ao (by rw[Af];show 0<x.length;omega)⟩;refine⟨_,rfl,_,_,c,rfl,rfl,q,eN (j:=0) p,rfl,_,rfl,?_⟩;have J:decide (V.str ⟨#[c]⟩=V.str "0")=decide (c=48):=by
     refine decide_eq_decide.mpr ⟨fun z=>?_,fun z=>?_⟩
     ·injection z with z
      have L:("0":Str)=⟨#[48]⟩:=δ
      rw[L] at z;injection z with z
      simpa using z
     ·rw[z];decide +kernel
    rw[J]
    by_cases hc:c=48
    ·rw[decide_eq_true hc]
     exact be (e (by unfold okN;rw[h3,p,hc,g,decide_eq_true h1,decide_eq_true h2];rfl) d)
    ·rw[decide_eq_false hc]
     exact bg ⟨_,rfl,_,_,rfl,v,ω,a (by unfold okN;rw[h3,p,g,decide_eq_true h1,decide_eq_true h2,decide_eq_false (fun z=>hc (As z))];rfl) d⟩
   ·have g:decide ((1:Int)<(x.length:Int))=false:=decide_eq_false fun z=>o (decide_eq_true (by rw[show(x.length:Int)=2 from ω]))
    exact bg ⟨_,rfl,_,_,rfl,v,ω,a (by unfold okN;rw[h3,g,decide_eq_true h1,decide_eq_true h2];rfl) d⟩
end
def Co{f:Type}{R:f->f->Prop}(as:∀a b,R a b->¬R b a):∀{c d:List f},c.Pairwise R->d.Pairwise R->(∀x,x∈c↔x∈d)->c=d
 |[],[],_,_,_=>rfl
 |[],b::r,_,_,h=>absurd ((h b).mpr Aj) (by simp)
 |a::r,[],_,_,h=>absurd ((h a).mp Aj) (by simp)
 |a::r,b::t,h1,h2,h=>by
  obtain⟨p1,p2⟩:=List.pairwise_cons.mp h1;obtain⟨q1,g⟩:=List.pairwise_cons.mp h2;have e:a=b:=by
   rcases List.mem_cons.mp ((h a).mp Aj) with z|z
   ·exact z
   ·rcases List.mem_cons.mp ((h b).mpr Aj) with y|y
    ·exact y.symm
    ·exact absurd (q1 a z) (as _ _ (p1 b y))
  subst e;rw[Co as p2 g fun x=>⟨fun hx=>?_,fun hx=>?_⟩]
  ·rcases List.mem_cons.mp ((h x).mp (An _ hx)) with z|z
   ·subst z;exact absurd (p1 x hx) (as _ _ (p1 x hx))
   ·exact z
  ·rcases List.mem_cons.mp ((h x).mpr (An _ hx)) with z|z
   ·subst z;exact absurd (q1 x hx) (as _ _ (q1 x hx))
   ·exact z
def IB{ns c:List Int}(hp:c.Perm (dd ns))(hs:c.Pairwise (·<=·)):decide (ns=c)=aX ns:=by
 have hm:aX c=true:=yL hs (hp.nodup_iff.mpr (tw ns))
 by_cases e:ns=c
 ·rw[decide_eq_true e,e,hm]
 ·rw[decide_eq_false e]
  symm
  rw[Bool.eq_false_iff];intro h;refine e (Co (R:=fun a b:Int=>a<b) (fun a b h1 h2=>ω) ((jM ns).mp h) ((jM c).mp hm) fun x=>?_);rw[hp.mem_iff,hU]
section
variable{P:Program}{w:World}{K:Ae}{mg:Str->Option Value}{base:Heap}{f:Addr}{fd:FuncData}
def IC{H2:Hp}{L D:Addr}{ws:List Str}{Q:VK}(i:H2 L=some (.lst (ws.map V.str)))(l:ws.length<=100000)(hw:∀x∈ws,x.length<=100000)(f:H2 D=none)(k:∀a,Same H2 a->a D=some (.lst ((ws.map fC).map eM))->Q (.ref D) a):cw (du K L) (cm 0) bN (jn wm [] E0 (zB (aY 0) bJ)) [none] H2 D Q:=by
 refine zR (xs:=ws.map V.str) (fun j σ ys a=>∃v:Option V,σ=[v]/\Same H2 a/\a D=some (.lst ys)/\ys=((ws.map fC).take j).map eM) ?_ ?_ ?_ ?_
 ·exact⟨none,rfl,Same.new f,am,rfl⟩
 ·rintro j σ ys a ⟨v,rfl,c,d,rfl⟩
  exact SqL.of (c _ _ i)
 ·rintro j σ ys a x hx g hy ⟨v,rfl,c,d,rfl⟩
  rw[Ar] at hx;cases eq:ws[j]? with
  |none=>rw[eq] at hx;cases hx
  |some q=>
   rw[eq] at hx;obtain rfl:=As hx;have hq:=Az eq;have h:(ws.map fC)[j]?=some (fC q):=by rw[Ar,eq];rfl
   refine cb ⟨_,rfl,q,rfl,hw q hq,fun o e=>?_⟩;exact bO (by rw[Ab];exact zd l) g hy (e _ _ d) ⟨_,rfl,(c.trans e).then f,am,by rw[AN h,Au];rfl⟩
 ·rintro σ ys a ⟨v,rfl,c,d,rfl⟩
  rw[Ab,At (by rw[Ab];exact Ag _)] at d;exact k a c d
def ID(x:Str):iH .non ((((Aw x "-").map fC).map eM))=!zT x:=by
 unfold iH zT;generalize Aw x "-"=ws
 induction ws with
 |nil=>rfl
 |cons y r ih=>
  rw[AT,AT,List.any_cons,ih,List.all_cons,Bool.not_and]
  congr 1
  unfold fC;cases okN 2 y<;>rfl
def IE(x:Str):((((Aw x "-").map fC).map eM)).all dL=true:=by
 rw[List.all_map,List.all_eq_true];intro o _;cases o<;>rfl
def IF{x:Str}(h:zT x=true):((Aw x "-").map fC).map eM=(zK x).map V.int:=by
 unfold zT at h;unfold zK;rw[AK,AK];refine List.map_congr_left fun t ht=>?_;have:=List.all_eq_true.mp h t ht;show eM (fC t)=V.int (valN t);unfold fC;rw[this,if_pos rfl];rfl
def wn(K:Ae):Sp:=fun vs H Q _=>∃t,vs=[.str t]/\t.length<=50000/\(wsT t).length<=30/\
 ((∃pss,fY t=some pss/\∀D bs H',Same H H'->H D=none->H' D=some (.lst (bs.map V.ref))->Tps H' bs pss->Q (.ref D) H')\/(fY t=none/\∀H',Same H H'->Q .non H'))
abbrev Cq:List Str:=["text","web","word","row"]
def oF:zo Cq ["text"] (zf wl):=⟨rfl,rfl,rfl,δ,rfl,δ,δ⟩
def IG(F:Fun K "_law_written" "_law_written" wl f fd)(B:Bt mg)(Cp:Cl P w K mg base aT "_law_point" ["word"] 1 wm)(sN:Cl P w K mg base aT "_law_pieces" ["web"] 2 (jJ K))(Cg:Cl P w K mg base aT "_law_greatest" ["web"] 3 (vH K)):FnOk P w K mg base aT 4 f fd ["text"] (wn K):=by
 refine F.ok oF (fun vs H Q E h=>?_) (fun cdv A outer s H vs Q E hr h=>?_)
 ·obtain⟨t,rfl,_⟩:=h;rfl
 ·obtain⟨t,rfl,hz,dX,h⟩:=h
  have bC:=hr.units;refine⟨_,ze (zS (zq dI (pv 0) pe_str (au _)) (zg (zp (zI aq))) zt)
   (ze (zr (i:=1) oF.nd rfl (Or.inl rfl) (zI aq))
   (ze (ee Bc rfl (zF (zW AG PySem.F.slot_str_split PySem.F.type_str_split iR (pv 0) (ae pe_str aq))) (zn (i:=2) oF.nd rfl (Or.inl rfl))
    (ze (Ix (i:=3) oF.nd rfl (Or.inl rfl) Cq ["part"] [none] (zF (zW AG PySem.F.slot_str_split PySem.F.type_str_split iR (pv 2) (ae pe_str aq)))
     (fun cl C s₀ H₀ ex=>zn (i:=0) (cz ["part"]) rfl (Or.inl rfl)) (fun cl C s₀ H₀ ex=>zG) (fun cl C s₀ H₀ ex=>cB Cp hr rfl aw (ae (pv 0) aq)) (hfr:=bP δ))
    (ze (zS (PW.pt (iq (zq w6 im (pv 3) (by with_unfolding_all rfl)) (iq (zq gU (zm zl rfl B.len cP (ae (pv 3) aq)) zh (au _)) (j_ (zq (Iv bC) (pv 3) (zm (Iu rfl) rfl B.sorted nY (ae (zw (Ia rfl) rfl B.set yw (ae (pv 3) aq)) aq)) (au _)))))) (zg (zp im)) zt)
    (zg (fM (zW AU PySem.F.slot_list_append PySem.F.type_list_append gC (pv 1) (ae (zw kE rfl B.tuple lm (ae (pv 3) aq)) aq)))))))
   (ze (zS (PW.pt (iq (zq gU (zm zl rfl B.len cP (ae (pv 1) aq)) zh (au _)) (iq (zq gU (zm zl rfl B.len cP (ae (cB sN hr rfl aw (ae (pv 1) aq)) aq)) zh (au _)) (j_ (zq (x5 bC) (pv 1) (cB Cg hr rfl aw (ae (pv 1) aq)) (au _)))))) (zg (zp im)) zt)
   (zg (zp (pv 1)))))),?_⟩
  have I:∀{H1:Hp},fY t=none->Same H H1->Q .non H1:=fun hb s1=>by
   rcases h with ⟨cs,b,_⟩|⟨_,k⟩
   ·rw[hb] at b;cases b
   ·exact k _ s1
  have L:∀{pss:Ξ},fY t=some pss->∀D bs H',Same H H'->H D=none->H' D=some (.lst (bs.map V.ref))->Tps H' bs pss->Q (.ref D) H':=fun hb=>by
   rcases h with ⟨cs,b,k⟩|⟨b,_⟩
   ·rw[hb] at b;obtain rfl:=As b;exact k
   ·rw[hb] at b;cases b
  refine⟨_,rfl,rfl,_,rfl,?_⟩
  by_cases he:t=""
  ·rw[decide_eq_true (by rw[he])]
   exact be ⟨zd (by simp),fun D hD=>L (pss:=[]) (by unfold fY;rw[if_pos he]) D [] _ (Same.new hD) hD am .nil⟩
  rw[decide_eq_false fun z=>he (by injection z)];have d:fY t=if((wsT t).all d_&&(decide ((psT t).length<=20)&&(decide ((canon (psT t)).length<=200)&&decide (psT t=tops (canon (psT t))))))=true then some (psT t) else none:=by unfold fY;rw[if_neg he]
  have hwl:∀z∈wsT t,z.length<=50000:=fun z aR=>by
   have e:z∈Aw t ⟨#[32]⟩:=by rw[<-blank];exact aR
   exact AA (split_len e) hz
  have hwn:(Aw t " ").length<=30:=dX;refine bg ⟨zd (by simp),fun W hW=>⟨_,rfl,rfl,_,_,rfl,rfl,ξ,zd ω,zd ω,fun S hS=>⟨S,rfl,⟨_,SqL.of am⟩,?_⟩⟩⟩;have sW:=Same.new (o:=.lst []) hW;have sS:=Same.new (o:=.lst ((wsT t).map V.str)) hS;have oP:W≠S:=zj am hS;refine f_ (K:=K) (a:=S) (xs:=(wsT t).map V.str) (fun i σ v=>∃(v2 v3:Option V)(bs:List Addr),σ=[some (.str t),some (.ref W),v2,v3]/\Same H v/\v S=some (.lst ((wsT t).map V.str))/\v W=some (.lst (bs.map V.ref))/\Tps v bs ((psT t).take i)/\((wsT t).take i).all d_=true)
   ⟨none,none,[],rfl,sW.trans sS,am,by rw[zi oP,am];rfl,.nil,rfl⟩ (fun i σ v _ ⟨_,_,_,_,_,h,_⟩=>SqL.of h) ?_ ?_
  ·rintro i x σ v hx ⟨v2,v3,bs,rfl,J,eF,j,g,c⟩
   rw[Ar] at hx;obtain⟨z,r⟩:∃z,(wsT t)[i]?=some z:=by
    cases r:(wsT t)[i]? with
    |none=>rw[r] at hx;cases hx
    |some z=>exact⟨z,rfl⟩
   rw[r] at hx;obtain rfl:=As hx;have eV:=Az r;have pF:=hwl z eV;have hi:i<(wsT t).length:=(List.getElem?_eq_some_iff.mp r).1;have km:=g.length;rw[AI] at km;have stop:d_ z=false->fY t=none:=fun hp=>by
    rw[d,show(wsT t).all d_=false from by
     rw[Bool.eq_false_iff];intro y;rw[List.all_eq_true.mp y z eV] at hp;cases hp]
    rfl
   have hd:(Aw z "-").length<=60000/\∀y∈Aw z "-",y.length<=50000:=by
    rw[show("-":Str)=⟨#[45]⟩ from dn];have:=oz z 45;exact⟨ω,fun y hy=>AA (split_len hy) pF⟩
   refine⟨_,rfl,rfl,_,_,rfl,rfl,ξ,zd ω,zd ω,fun S2 cj=>⟨S2,rfl,⟨_,SqL.of am⟩,fun R hR=>zA (IC am ω (fun x hx=>AA (hd.2 x hx) ξ) hR fun H5 q G=>?_)⟩⟩;have N:=(Same.new (o:=.lst ((Aw z "-").map V.str)) cj).trans q;have sA:=J.trans N;refine⟨_,rfl,R,_,rfl,.inl (SqL.of G),rfl,IE z,_,rfl,?_⟩;rw[if_neg ξ,ID];cases hwo:zT z with
   |false=>exact be (be (I (stop (by unfold d_;rw[hwo];rfl)) sA))
   |true=>
    rw[IF hwo] at G;refine bg ⟨_,rfl,R,_,rfl,.inl (SqL.of G),_,_,rfl,rfl,_,rfl,?_⟩;rw[Ab]
    by_cases X:(zK z).length<=5
    rotate_left
    ·rw[decide_eq_true (show(5:Int)<((zK z).length:Int) from ω)]
     exact be (be (I (stop (by unfold d_;rw[hwo,decide_eq_false X];rfl)) sA))
    rw[decide_eq_false (show ¬(5:Int)<((zK z).length:Int) from ω)];refine bg ⟨_,rfl,_,rfl,R,_,rfl,SqL.of G,ω,fun Z hZ=>⟨Z,_,rfl,am,fun M ms hp hs hM=>⟨R,M,_,_,rfl,rfl,SqL.of ((Same.new hM) _ _ ((Same.new hZ) _ _ G)),SqL.of am,_,rfl,?_⟩⟩⟩;rw[IB hp hs];have s6:=(Same.new (o:=eL P w Z (dd (zK z))) hZ).trans (Same.new (o:=.lst (ms.map V.int)) hM);have pX:=s6 _ _ G;have O:=N.trans s6;have sB:=J.trans O;cases j7:aX (zK z) with
    |false=>exact be (I (stop (by unfold d_;rw[j7,Bd,Bd])) sB)
    |true=>
     refine bg ⟨_,rfl,.inl ⟨rfl,_,SqL.of (O _ _ j)⟩,_,rfl,R,_,rfl,.inl ⟨SqL.of pX,fun T hT=>?_⟩⟩;have sT:=Same.new (o:=.tup ((zK z).map V.int)) hT;have pD:=sT _ _ (O _ _ j);have ep:(psT t)[i]?=some (zK z):=by rw[Ar,r];rfl
     refine⟨W,_,_,rfl,rfl,pD,by rw[Ab];exact fA ω,⟨_,_,bs++[T],rfl,(sB.trans sT).then hW,?_,by rw[am,Au];rfl,?_,?_⟩⟩
     ·rw[zi (Ne.symm oP)];exact sT _ _ (O _ _ eF)
     ·rw[AN ep]
      exact Tps.upd (Tps.snoc (sT.tps (O.tps g)) am) pD (by intro xs y;cases y)
     ·rw[AN r,List.all_append,c]
      simp[d_,hwo,X,j7]
  ·rintro σ v ⟨v2,v3,bs,rfl,J,eF,j,g,c⟩
   rw[Ab,take_all] at c;rw[Ab,At (by rw[Ab];exact Ag _)] at g;rw[c,Bool.true_and] at d;have km:=g.length;have hpl:(psT t).length<=30:=by rw[Ab];exact dX
   have U:∀p∈psT t,zZ p=true:=fun p hp=>by
    obtain⟨z,aR,rfl⟩:=List.mem_map.mp hp;have mT:=List.all_eq_true.mp c z aR;unfold d_ at mT;rw[AE,AE,decide_eq_true_eq] at mT;obtain⟨r1,r2,r3⟩:=mT;obtain⟨_,w2,w3⟩:=oE r1;exact zL.mpr ⟨w3,r2,w2,(jM _).mp r3⟩
   have X:∀p∈psT t,p.length<=5:=fun p hp=>(zL.mp (U p hp)).2.1;have gF:=B5 hpl X;refine⟨_,rfl,W,_,rfl,.inl (SqL.of j),_,_,rfl,rfl,_,rfl,?_⟩;rw[Ab,km]
   by_cases Y:(psT t).length<=20
   rotate_left
   ·rw[decide_eq_true (show(20:Int)<((psT t).length:Int) from ω)]
    exact be (be (I (by rw[d,decide_eq_false Y];rfl) J))
   rw[decide_eq_false (show ¬(20:Int)<((psT t).length:Int) from ω)];rw[decide_eq_true Y,Bool.true_and] at d;refine bg ⟨_,rfl,W,bs,psT t,rfl,SqL.of j,g,X,ω,gF,fun KN H4 qs ng=>?_⟩;obtain⟨ks,u,_,lw,dH⟩:=vr ng;have ph:=dH.length;refine⟨KN,_,rfl,.inl (SqL.of lw),_,_,rfl,rfl,_,rfl,?_⟩;rw[Ab,ph];have s4:=J.trans u
   by_cases l:(canon (psT t)).length<=200
   rotate_left
   ·rw[decide_eq_true (show(200:Int)<((canon (psT t)).length:Int) from ω)]
    exact be (be (I (by rw[d,decide_eq_false l];rfl) s4))
   rw[decide_eq_false (show ¬(200:Int)<((canon (psT t)).length:Int) from ω)];rw[decide_eq_true l,Bool.true_and] at d;refine bg ⟨_,rfl,_,rfl,W,bs,psT t,rfl,SqL.of (u _ _ j),u.tps g,U,ω,ω,fun GD H5 gs q qL sv pM=>.inr ⟨W,GD,bs,gs,psT t,tops (canon (psT t)),rfl,rfl,SqL.of (q _ _ (u _ _ j)),q.tps (u.tps g),SqL.of sv,pM,?_⟩⟩;have N:=s4.trans q;rw[if_pos rfl];refine⟨_,rfl,?_⟩
   by_cases hp:psT t=tops (canon (psT t))
   ·rw[decide_eq_true hp] at d ⊢
    exact bg ⟨_,rfl,L (by rw[d,if_pos rfl]) W bs H5 N hW (q _ _ (u _ _ j)) (q.tps (u.tps g))⟩
   ·rw[decide_eq_false hp] at d ⊢
    exact be (I (by rw[d,if_neg ξ]) N)
end
end K8
end
section
namespace K8
open K1
open PySem L2
abbrev ii:Stmt:=top 49
def wo(C:Addr)(i:Nat)(b:Bool):TE:=fun σ H Q=>∃x,σ[i]?=some (some (.ref x))/\H x=some (eH x C)/\Q (.bl b) H
section
variable{X:Cx}{x1 x2 x3 x4:Str}{j1 j2 j3 j4:Nat}{p1 p2 p3 p4:Pos}{es:List Expr}{t:TA}
def fZ{n a:Str}{i:Nat}{C d:Addr}{b:Bool}{q1 f g pos:Pos}(xc:dq X.K C)(y:AL X.K (.ref C) (.ref d)=some b)(j:X.mg "isinstance"=none)(l:X.mg a=some (.ref d))(o:Gl X "isinstance")(p:Gl X a)(he:PE X (.Name n f) (aY i))(r:(a==("__debug__":Str))=false:=by decide):PE X (.Call (.Name "isinstance" q1) [.Name n f,.Name a g] [] pos) (wo C i b):=by
 intro aa s σ H Q I h;obtain⟨x,e,hx,q⟩:=h;refine(show PE X _ _ from zm (BK (c:=.ref d) (fun u h=>h) xc y) o j yx (ae he (ae (gP (v:=.ref d) p l rfl (hd:=r)) aq))) aa s σ H Q I ?_;exact⟨_,e,x,rfl,hx,q⟩
def mh(h:PA X es t):PA X (.Constant (.str x1) j1 p1::.Constant (.str x2) j2 p2::.Constant (.str x3) j3 p3::.Constant (.str x4) j4 p4::es) (zB (tC (.str x1)) (zB (tC (.str x2)) (zB (tC (.str x3)) (zB (tC (.str x4)) t)))):=
 ae pe_str (ae pe_str (ae pe_str (ae pe_str h)))
end
structure Mk(K:Ae)(C f0 f1 f2 f3 f4 f5 f6 f7 f8 f9 eD:Addr)(i:Nat):Prop where
 xc:dq K C
 y0:AL K (.ref C) (.ref f0)=some (decide (i=0))
 y1:AL K (.ref C) (.ref f1)=some (decide (i=1))
 y2:AL K (.ref C) (.ref f2)=some (decide (i=2))
 y3:AL K (.ref C) (.ref f3)=some (decide (i=3))
 y4:AL K (.ref C) (.ref f4)=some (decide (i=4))
 y5:AL K (.ref C) (.ref f5)=some (decide (i=5))
 y6:AL K (.ref C) (.ref f6)=some (decide (i=6))
 y7:AL K (.ref C) (.ref f7)=some (decide (i=7))
 y8:AL K (.ref C) (.ref f8)=some (decide (i=8))
 y9:AL K (.ref C) (.ref f9)=some (decide (i=9))
 y10:AL K (.ref C) (.ref eD)=some (decide (i=10))
 yv:AL K (.ref C) (.type "ValueError")=some true
def IH{K:Ae}{C f0 f1 f2 f3 f4 f5 f6 f7 f8 f9 j:Addr}{i:Nat}(a:PySem.W.findIn K (.ref C) "__getattribute__"=some (some (.builtin "BaseException.__getattribute__")))(b:PySem.W.findIn K (.ref C) "__getattr__"=some none)(q:PySem.W.excIn K C jb "ValueError.__new__"=true)(c:PySem.W.findIn K (.ref C) "__class__"=some (some (.builtin "object.__class__")))(d:PySem.W.specialIn K (.builtin "object.__class__") "__get__"=some (some (.builtin "getset_descriptor.__get__")))(e:PySem.W.takesIn K (.builtin "object.__class__")=some true)(f:PySem.W.mroIn K C (.type "object")=some true)(g:PySem.W.mroIn K C (.type "BaseException")=some true)(l:AL K (.ref C) (.ref f0)=some (decide (i=0)))(o:AL K (.ref C) (.ref f1)=some (decide (i=1)))(p:AL K (.ref C) (.ref f2)=some (decide (i=2)))(r:AL K (.ref C) (.ref f3)=some (decide (i=3)))(s:AL K (.ref C) (.ref f4)=some (decide (i=4)))(u:AL K (.ref C) (.ref f5)=some (decide (i=5)))(v:AL K (.ref C) (.ref f6)=some (decide (i=6)))(w:AL K (.ref C) (.ref f7)=some (decide (i=7)))(x:AL K (.ref C) (.ref f8)=some (decide (i=8)))(y:AL K (.ref C) (.ref f9)=some (decide (i=9)))(h:AL K (.ref C) (.ref j)=some (decide (i=10)))(z:AL K (.ref C) (.type "ValueError")=some true):Mk K C f0 f1 f2 f3 f4 f5 f6 f7 f8 f9 j i:=⟨Ho a b q c d e f g,l,o,p,r,s,u,v,w,x,y,h,z⟩
def II:List Expr:=match List.drop 4 (zM ii) with
 |[.Assign _ (.List E _) _,_]=>E
 |_=>[]
def wp:Stmt:=(List.drop 5 (zM ii)).headD (.Pass ⟨0,0,0,0⟩)
def wS(i:Nat):Stmt:=(zM ii).getD i (.Pass ⟨0,0,0,0⟩)
def w2:∃E:List Expr,zM ii=[wS 0,wS 1,wS 2,wS 3,.Assign [.Name "some" ⟨180,4,180,8⟩] (.List E ⟨180,11,180,105⟩) ⟨180,4,180,105⟩,wp]/\∀X:Cx,PA X E (zB (tC (.str "web")) (zB (tC (.str "piece")) (zB (tC (.str "chain")) (zB (tC (.str "closed")) (zB (tC (.str "table")) (zB (tC (.str "goal")) (zB (tC (.str "push")) (zB (tC (.str "map")) (zB (tC (.str "order")) (zB (tC (.str "number")) (zB (tC (.str "note")) bJ))))))))))):=
 ⟨II,rfl,fun X=>mh (mh (ae pe_str (ae pe_str (ae pe_str aq))))⟩
section
variable{P:Program}{w:World}{K:Ae}{mg:Str->Option Value}{base:Heap}
def wd:Nat->Str
 |_=>"note"
def Cr(K:Ae)(f0 f1 f2 f3 f4 f5 f6 f7 f8 f9 a:Addr):Sp:=fun vs H Q _=>∃x C i,vs=[.ref x]/\Mk K C f0 f1 f2 f3 f4 f5 f6 f7 f8 f9 a i/\(i=10)/\H x=some (eH x C)/\∀H',Same H H'->Q (.str (wd i)) H'
def mm:zo ["e","low","some"] ["e"] (zf ii):=⟨rfl,rfl,rfl,δ,rfl,δ,δ⟩
def IJ{f f0 f1 f2 f3 f4 f5 f6 f7 f8 f9 G:Addr}{fd:FuncData}(F:Fun K "_law_which" "_law_which" ii f fd)(d:mg "isinstance"=none)(U:mg "ValueError"=none)(W:mg "NoWeb"=some (.ref f0))(X:mg "NoPiece"=some (.ref f1))(m2:mg "NoChain"=some (.ref f2))(Y:mg "NotClosed"=some (.ref f3))(Z:mg "NoTable"=some (.ref f4))(m5:mg "NoGoal"=some (.ref f5))(m6:mg "NoPush"=some (.ref f6))(m7:mg "NoMap"=some (.ref f7))(m8:mg "NoOrder"=some (.ref f8))(m9:mg "NoNumber"=some (.ref f9))(kF:mg "NoNote"=some (.ref G))
 :lY P w K mg base 1 f fd ["e"] (Cr K f0 f1 f2 f3 f4 f5 f6 f7 f8 f9 G):=by
 refine F.okN mm (fun vs H Q E h=>?_) (fun cdv A outer s H vs Q E hr h=>?_)
 ·obtain⟨x,C,i,rfl,_⟩:=h;rfl
 ·obtain⟨x,C,i,rfl,M,hi,hx,k⟩:=h
  obtain⟨EL,N,O⟩:=w2;rw[N];refine⟨_,ze (zr (i:=1) mm.nd rfl (Or.inl rfl) (zI (ae (fZ M.xc M.y0 d W rfl rfl (pv 0)) (ae (fZ M.xc M.y1 d X rfl rfl (pv 0)) (ae (fZ M.xc M.y2 d m2 rfl rfl (pv 0)) (ae (fZ M.xc M.y3 d Y rfl rfl (pv 0)) aq))))))
   (ze (zr (i:=1) mm.nd rfl (Or.inl rfl) (zv eO (pv 1) (zI (ae (fZ M.xc M.y4 d Z rfl rfl (pv 0)) (ae (fZ M.xc M.y5 d m5 rfl rfl (pv 0)) (ae (fZ M.xc M.y6 d m6 rfl rfl (pv 0)) (ae (fZ M.xc M.y7 d m7 rfl rfl (pv 0)) aq)))))))
   (ze (zr (i:=1) mm.nd rfl (Or.inl rfl) (zv eO (pv 1) (zI (ae (fZ M.xc M.y8 d m8 rfl rfl (pv 0)) (ae (fZ M.xc M.y9 d m9 rfl rfl (pv 0)) (ae (fZ M.xc M.y10 d kF rfl rfl (pv 0)) aq))))))
   (ze (zS (PW.pt (iq (gQ (jj (zm (BK (c:=.ty "ValueError") (fun u h=>h) M.xc M.yv) rfl d yx (ae (pv 0) (ae (CQ (v:=.ty "ValueError") rfl U PyProof.Rows.Boot.«ValueError» rfl) aq))))) (j_ (zq pu (zW AU PySem.F.slot_list_count PySem.F.type_list_count Hd (pv 1) (ae fI aq)) zh (au _)))))
     (zg (zp pe_str)) zt)
   (ze (zr (i:=2) mm.nd rfl (Or.inl rfl) (zI (O _)))
    (zg (zp (cQ zX (pv 2) (zW AU PySem.F.slot_list_index PySem.F.type_list_index He (pv 1) (ae fI aq)) (fun _ _=>rfl)))))))),?_⟩
  refine⟨x,rfl,hx,x,rfl,hx,x,rfl,hx,x,rfl,hx,zd (by simp),fun p hp=>?_⟩;have g:=Same.new (o:=.lst [.bl (decide (i=0)),.bl (decide (i=1)),.bl (decide (i=2)),.bl (decide (i=3))]) hp;refine⟨_,rfl,x,rfl,g _ _ hx,x,rfl,g _ _ hx,x,rfl,g _ _ hx,x,rfl,g _ _ hx,zd (by simp),fun p2 q=>?_⟩;have S:=g.trans (Same.new (o:=.lst [.bl (decide (i=4)),.bl (decide (i=5)),.bl (decide (i=6)),.bl (decide (i=7))]) q);refine⟨p,p2,_,_,rfl,rfl,(Same.new q) _ _ am,am,zd (by simp),fun p3 I=>?_⟩;have j:=S.trans (Same.new (o:=.lst [.bl (decide (i=0)),.bl (decide (i=1)),.bl (decide (i=2)),.bl (decide (i=3)),.bl (decide (i=4)),.bl (decide (i=5)),.bl (decide (i=6)),.bl (decide (i=7))]) I);refine⟨_,rfl,x,rfl,j _ _ hx,x,rfl,j _ _ hx,x,rfl,j _ _ hx,zd (by simp),fun p4 r=>?_⟩;have T:=j.trans (Same.new (o:=.lst [.bl (decide (i=8)),.bl (decide (i=9)),.bl (decide (i=10))]) r);refine⟨p3,p4,_,_,rfl,rfl,(Same.new r) _ _ am,am,zd (by simp),fun l J=>?_⟩;have z:=T.trans (Same.new (o:=.lst [.bl (decide (i=0)),.bl (decide (i=1)),.bl (decide (i=2)),.bl (decide (i=3)),.bl (decide (i=4)),.bl (decide (i=5)),.bl (decide (i=6)),.bl (decide (i=7)),.bl (decide (i=8)),.bl (decide (i=9)),.bl (decide (i=10))]) J);refine⟨_,rfl,x,rfl,z _ _ hx,_,rfl,?_⟩;refine bg ⟨_,rfl,.inl ⟨rfl,_,SqL.of am⟩,l,_,.bl true,rfl,rfl,am,rfl,?_⟩;subst hi
  ·refine⟨rfl,rfl,false,(by first|rfl|decide),bg ⟨zd (by simp),fun L y=>?_⟩⟩
   have D:=(Same.new (o:=.lst [.str "web",.str "piece",.str "chain",.str "closed",.str "table",.str "goal",.str "push",.str "map",.str "order",.str "number",.str "note"]) y) _ _ (am (a:=l));refine⟨_,rfl,_,rfl,.inl ⟨rfl,_,SqL.of D⟩,l,_,.bl true,10,rfl,rfl,D,ξ,rfl,ξ,ξ,(fun m hm=>?_),L,_,10,_,rfl,rfl,SqL.of am,rfl,k _ (z.trans (Same.new y))⟩;have:m=0\/m=1\/m=2\/m=3\/m=4\/m=5\/m=6\/m=7\/m=8\/m=9:=ω
   rcases this with rfl|rfl|rfl|rfl|rfl|rfl|rfl|rfl|rfl|rfl<;>decide
end
end K8
end
section
namespace K8
open K1 Tx
open PySem L2 STb
abbrev wq:Stmt:=top 53
section
variable{P:Program}{w:World}{K:Ae}{mg:Str->Option Value}{base:Heap}{f fw f0 f1 f2 f3 f4 f5 f6 f7 f8 f9 fN fS:Addr}{fd dZ:FuncData}
def wt(K:Ae):Sp:=fun vs H Q E=>∃t,vs=[.str t]/\t.length<=50000/\(wsT t).length<=30/\
 ((∃pss,fV t=some pss/\∀D bs H',Same H H'->H D=none->H' D=some (.lst (bs.map V.ref))->Tps H' bs pss->Q (.ref D) H')\/(fV t=none/\∀H',Same H H'->Q (.str "note") H'))
def mw:zo ["text","told","e"] ["text"] (zf wq):=⟨rfl,rfl,rfl,δ,rfl,δ,δ⟩
def IK(F:Fun K "_law_asked" "_law_asked" wq f fd)(y:mg "SeamError"=some (.ref fS))(G:Cl P w K mg base (cZ P w) "read" ["text"] 11 (B6 fN))(Fw:Fun K "_law_which" "_law_which" ii fw dZ)(z:Binds K dZ ["e"] [])(C:mg "_law_which"=some (.ref fw))(I:lY P w K mg base 1 fw dZ ["e"] (Cr K f0 f1 f2 f3 f4 f5 f6 f7 f8 f9 fN))(M:Mk K fN f0 f1 f2 f3 f4 f5 f6 f7 f8 f9 fN 10)(S:gN K fN fS):FnOk P w K mg base aT 12 f fd ["text"] (wt K):=by
 refine F.ok mw (fun vs H Q E h=>?_) (fun cdv A outer s H vs Q E hr h=>?_)
 ·obtain⟨t,rfl,_⟩:=h;rfl
 ·obtain⟨t,rfl,u,v,h⟩:=h
  have j:Room 1 _:=hr.mono ξ;refine⟨_,ze (zr (i:=1) mw.nd rfl (Or.inl rfl) im)
   (ze (G5 (ie:=2) (S:=fS) rfl mw.nd rfl rfl rfl rfl rfl y
    (fun aa EB=>zg (zr (i:=1) mw.nd rfl (Or.inl rfl) (cB G hr rfl (G4 rfl) (ae (pv 0) aq))))
    (fun aa x=>zg (zr (i:=1) mw.nd rfl (Or.inl rfl) (Hb (E:=E0) I (j.mark _) rfl C Fw.kp z .nil (ae (pv 2) aq)))))
   (zg (zp (pv 1)))),?_⟩
  refine⟨_,rfl,t,rfl,u,v,?_⟩;rcases h with ⟨pss,g,k⟩|⟨g,k⟩
  ·exact .inl ⟨pss,g,fun D bs H' d l o ht=>⟨_,rfl,k D bs H' d l o ht⟩⟩
  ·refine .inr ⟨g,fun H1 d x hx=>⟨x,fN,rfl,rfl,S,fun p q=>?_⟩⟩
   match p,q with
   |[a,b,c],_=>exact⟨_,rfl,x,fN,10,rfl,M,rfl,am,fun H2 r=>⟨_,rfl,k H2 (d.trans ((Same.new hx).trans r))⟩⟩
end
abbrev da:Stmt:=top 52
def Cu(ws:List Str)(k:Nat):(ws.map V.str).eraseIdx k=(ws.eraseIdx k).map V.str:=by
 rw[List.eraseIdx_eq_take_drop_succ,List.eraseIdx_eq_take_drop_succ,Au,List.map_take,List.map_drop]
def Cv(ws:List Str)(i:Nat)(t:Str):(ws.map V.str).take i++V.str t::(ws.map V.str).drop i=(ws.take i++t::ws.drop i).map V.str:=by
 rw[Au,AT,List.map_take,List.map_drop]
def oH{ws:List Str}{i:Int}(a:0<=i)(h1:i<(ws.length:Int)):∃t,ws[i.toNat]?=some t/\t∈ws/\atI (ws.map V.str) i=some (V.str t)/\seqIndex? i (ws.map V.str).length=some i.toNat/\(ws.map V.str)[i.toNat]?=some (V.str t):=by
 have hi:i.toNat<ws.length:=ω
 have e:=Ao hi;have e2:(ws.map V.str)[i.toNat]?=some (V.str ws[i.toNat]):=by rw[Ar,e];rfl
 refine⟨_,e,List.getElem_mem hi,?_,?_,e2⟩
 ·have:=eN e2
  rwa [show((i.toNat:Nat):Int)=i from ω] at this
 ·exact seqIndex_of a (by rw[Ab];exact h1)
def Cy{c d:Nat}:∀{ws:List Str}{t:Str},t∈ws->c∈sg t->c∈sg (Str.join ⟨#[d]⟩ ws)
 |[],_,h,_=>nomatch h
 |[w],t,h,hc=>by rw[PyProof.Rows.join_one];rw[<-List.mem_singleton.mp h];exact hc
 |u::v::r,t,h,hc=>by
  show c∈(Str.join ⟨#[d]⟩ (u::v::r)).cps.toList;rw[c7];rcases List.mem_cons.mp h with h|h
  ·rw[<-h];exact A9 _ hc
  ·exact AB _ (An _ (Cy h hc))
def part_free{x y:Str}(h:32∉sg x)(hy:y∈Aw x "-"):32∉sg y:=fun z=>h (by
 rw[show("-":Str)=⟨#[45]⟩ from dn] at hy;have:=Cy (d:=45) hy z
 rwa [StrLaws.join_split] at this)
def IL{x:Str}{ws:List Str}(hx:x.length<=20000)(hm:∀t∈ws,32∉sg t)(d:ws.length<=(Aw x " ").length+1)(hs:bj ws<=bj (Aw x " ")+x.length):JoinOk " " ws=true/\jV x (Txt.join " " ws):=by
 have e:=BZ x;obtain⟨a,b⟩:=BV (sep:=" ") (ws:=ws) rfl ω;refine⟨a,ω,?_⟩;have c:=oB x;rcases bl_join hm with z|⟨_,z⟩<;>omega
structure Tw(H H':Hp)(p S:Addr)(ws:List Str):Prop where
 h0:H S=none
 hS:H' S=some (.lst (ws.map V.str))
 sb:zP p H H'
 hb:zD H' p
 ne:S≠p
def Tw.put{H H':Hp}{p S:Addr}{ws us:List Str}(h:Tw H H' p S ws):Tw H (upd H' S (.lst (us.map V.str))) p S us:=⟨h.h0,am,h.sb.then h.h0,h.hb.upd h.ne,h.ne⟩
def Tw.take{H H' H2:Hp}{p S:Addr}{ws:List Str}(h:Tw H H' p S ws)(a:zP p H' H2)(hb:zD H2 p):Tw H H2 p S ws:=⟨h.h0,a _ _ h.ne h.hS,h.sb.trans a,hb,h.ne⟩
def Wd(text:Str)(ws:List Str):Prop:=(∀t∈ws,32∉sg t)/\ws.length<=(Aw text " ").length+1/\bj ws<=bj (Aw text " ")+text.length
section
variable{P:Program}{w:World}{K:Ae}{mg:Str->Option Value}{base:Heap}{f:Addr}{fd:FuncData}
def Cz:Sp:=fun vs H Q _=>∃p text,vs=[.ref p,.str text]/\zD H p/\text.length<=20000/\∀t H',jV text t->zP p H H'->zD H' p->Q (.str t) H'
abbrev oI:List Str:=["box","text","way","at","sign","words","place"]
def jZ:zo oI ["box","text"] (zf da):=⟨rfl,rfl,rfl,δ,rfl,δ,δ⟩
def IM(F:Fun K "_law_changed" "_law_changed" da f fd)(B:Bt mg)(U:Cl P w K mg base aT "_law_take" ["box","most"] 1 gh):FnOk P w K mg base aT 2 f fd ["box","text"] Cz:=by
 refine F.ok jZ (fun vs H Q E h=>?_) (fun cdv A outer s H vs Q E hr h=>?_)
 ·obtain⟨p,text,rfl,_⟩:=h;rfl
 ·obtain⟨p,text,rfl,fW,hz,k⟩:=h
  have hsp:(Aw text " ").length<=text.length+1:=by have:=BZ text;omega
  have R10:∃J,PSs (bh aT P w K mg base oI "_law_changed" (zf da) f cdv A outer s H E).nox (List.drop 10 (zM da)) J/\
    ∀(S:Addr)(ws:List Str)(g place:Int)(l C:Option V)(H2:Hp),Tw H H2 p S ws->Wd text ws->(g=7->ws=Aw text " ")->0<=place->place<((Aw text " ").length:Int)->
     J {nx:=fun _ H'=>Q .non H',rt:=Q} [some (.ref p),some (.str text),some (.int g),l,C,some (.ref S),some (.int place)] H2:=by
   refine⟨_,ze (zS (zq dI (pv 2) zh (au _)) (zg (fM (zW AU PySem.F.slot_list_insert PySem.F.type_list_insert sj (pv 5) (ae (pv 6) (ae (cQ zX (zI (ae (cQ zX (pv 5) (pv 6) (fun _ _=>rfl)) (ae (cQ zX (zW AG PySem.F.slot_str_split PySem.F.type_str_split iR (cQ zX (pv 5) (pv 6) (fun _ _=>rfl)) (ae pe_str aq)) zh (fun _ _=>rfl)) aq))) (cB U hr rfl aw (ae (pv 0) (ae zh aq))) (fun _ _=>rfl)) aq))))) zt)
    (zg (zp (zW AG PySem.F.slot_str_join PySem.F.type_str_join fR pe_str (ae (pv 5) aq)))),?_⟩
   intro S ws g place l C H2 d W Z D p1;have fin:∀(us:List Str)(G:Hp),Tw H G p S us->Wd text us->Q (.str (Txt.join " " us)) G/\JoinOk " " us=true:=fun us G I hu=>by
    obtain⟨a,b⟩:=IL hz hu.1 hu.2.1 hu.2.2;exact⟨k _ _ b I.sb I.hb,a⟩
   refine⟨_,rfl,rfl,_,rfl,bU (fun e=>?_) fun e=>?_⟩
   ·have e7:g=7:=by have:=of_decide_eq_true e;injection this
    have dX:=Z e7;subst dX;obtain⟨t,et,mt,ia,_,_⟩:=oH D p1;have om:t.length<=text.length:=by
     have e2:=mt;rw[show(" ":Str)=⟨#[32]⟩ from blank] at e2;exact split_len e2
    have hty:∀y∈Aw t "-",y.length<=text.length:=fun y hy=>by
     rw[show("-":Str)=⟨#[45]⟩ from dn] at hy;exact AA (split_len hy) om
    have htn:(Aw t "-").length<=20001:=by
     rw[show("-":Str)=⟨#[45]⟩ from dn];have:=oz t 45;omega
    obtain⟨y,hy,ey⟩:∃y,y∈Aw t "-"/\(Aw t "-")[0]?=some y:=by
     have hp:=List.length_pos_iff.mpr (i_ t "-");exact⟨_,List.getElem_mem hp,Ao hp⟩
    have ey':((Aw t "-").map V.str)[0]?=some (V.str y):=by rw[Ar,ey];rfl
    refine⟨_,rfl,.inl ⟨rfl,_,SqL.of d.hS⟩,_,rfl,_,rfl,_,rfl,S,_,_,_,rfl,rfl,SqL.of d.hS,ia,_,rfl,_,rfl,S,_,_,_,rfl,rfl,SqL.of d.hS,ia,rfl,_,_,rfl,rfl,ξ,zd ω,zd ω,fun S2 cj=>⟨S2,_,_,_,rfl,rfl,SqL.of am,eN (j:=0) ey',zd (by simp),fun L hL=>?_⟩⟩;have O:=(Same.new (o:=.lst ((Aw t "-").map V.str)) cj).trans (Same.new (o:=.lst [.str t,.str y]) hL);have pJ:upd (upd H2 S2 (.lst ((Aw t "-").map V.str))) L (.lst [.str t,.str y]) L=some (.lst [.str t,.str y]):=am;have tw2:Tw H (upd (upd H2 S2 (.lst ((Aw t "-").map V.str))) L (.lst [.str t,.str y])) p S (Aw text " "):=⟨d.h0,O _ _ d.hS,d.sb.trans (zP.of O),d.hb.same O,d.ne⟩;have fL:L≠p:=fun z=>by
     obtain⟨x,y',M,_⟩:=tw2.hb;rw[<-z,pJ] at M;injection M with M
     injection M with M
     injection M with M _
     cases M
    generalize upd (upd H2 S2 (.lst ((Aw t "-").map V.str))) L (.lst [.str t,.str y])=G at *;refine⟨_,rfl,p,2,rfl,tw2.hb,ξ,ξ,fun r H5 r0 r1 dz eJ=>?_⟩;have tw5:=tw2.take dz eJ;have qf:=dz _ _ fL pJ;obtain⟨u,iu,vp,uK⟩:∃u,atI [V.str t,V.str y] r=some (V.str u)/\u.length<=text.length/\32∉sg u:=by
     have:r=0\/r=1:=ω
     rcases this with rfl|rfl
     ·exact⟨t,eN (j:=0) rfl,om,zO mt⟩
     ·exact⟨y,eN (j:=1) rfl,hty y hy,part_free (zO mt) hy⟩
    refine⟨L,_,_,_,rfl,rfl,SqL.of qf,iu,S,_,_,_,rfl,rfl,tw5.hS,D,by rw[Ab];omega,by rw[Ab];exact fA ω,?_⟩;rw[Cv];have I:=tw5.put (us:=(Aw text " ").take place.toNat++u::(Aw text " ").drop place.toNat);obtain⟨s1,O⟩:=B3 (Aw text " ") place.toNat u;obtain⟨q,j⟩:=fin _ _ I ⟨fun v hv=>by
     rcases List.mem_append.mp hv with z|z
     ·exact zO (List.mem_of_mem_take z)
     ·rcases List.mem_cons.mp z with z|z
      ·rw[z];exact uK
      ·exact zO (List.mem_of_mem_drop z),ω,ω⟩
    exact⟨rfl,_,rfl,_,S,_,rfl,rfl,SqL.of I.hS,j,q⟩
   ·obtain⟨q,j⟩:=fin _ _ d W
    exact⟨rfl,_,rfl,_,S,_,rfl,rfl,SqL.of d.hS,j,q⟩
  obtain⟨re,ji,dN⟩:=R10;have R9:∃J,PSs (bh aT P w K mg base oI "_law_changed" (zf da) f cdv A outer s H E).nox (List.drop 9 (zM da)) J/\
    ∀(S:Addr)(ws:List Str)(g place:Int)(l C:Option V)(H2:Hp),Tw H H2 p S ws->Wd text ws->(g=7\/g=6->ws=Aw text " ")->0<=place->place<((Aw text " ").length:Int)->
     J {nx:=fun _ H'=>Q .non H',rt:=Q} [some (.ref p),some (.str text),some (.int g),l,C,some (.ref S),some (.int place)] H2:=by
   refine⟨_,ze (zS (zq dI (pv 2) zh (au _)) (zg (fM (zW AU PySem.F.slot_list_pop PySem.F.type_list_pop xa (pv 5) (ae (pv 6) aq)))) zt) ji,?_⟩;intro S ws g place l C H2 d W Z D p1;refine⟨_,rfl,rfl,_,rfl,bU (fun e=>?_) fun e=>dN S ws g place l C H2 d W (fun z=>Z (.inl z)) D p1⟩;have e6:g=6:=by have:=of_decide_eq_true e;injection this
   have dX:=Z (.inr e6);subst dX;obtain⟨t,et,mt,ia,ib,ic⟩:=oH D p1;refine⟨_,rfl,.inl ⟨rfl,_,SqL.of d.hS⟩,_,rfl,S,_,_,place.toNat,_,rfl,rfl,d.hS,ω,ω,ib,ic,?_⟩;rw[Cu];obtain⟨s1,O⟩:=B0 (Aw text " ") place.toNat t et;exact dN S _ g place l C _ d.put ⟨fun u hu=>zO (List.mem_of_mem_eraseIdx hu),ω,ω⟩ (fun z=>ω) D p1
  obtain⟨vA,mj,fT⟩:=R9;have R8:∃J,PSs (bh aT P w K mg base oI "_law_changed" (zf da) f cdv A outer s H E).nox (List.drop 8 (zM da)) J/\
    ∀(S:Addr)(g place:Int)(l C:Option V)(H2:Hp),Tw H H2 p S (Aw text " ")->0<=place->place<((Aw text " ").length:Int)->
     J {nx:=fun _ H'=>Q .non H',rt:=Q} [some (.ref p),some (.str text),some (.int g),l,C,some (.ref S),some (.int place)] H2:=by
   refine⟨_,ze (zS (zq dI (pv 2) zh (au _)) (zg (fM (zW AU PySem.F.slot_list_insert PySem.F.type_list_insert sj (pv 5)
    (ae (cB U hr rfl aw (ae (pv 0) (ae (zm zl rfl B.len cP (ae (pv 5) aq)) aq))) (ae (zW AU PySem.F.slot_list_pop PySem.F.type_list_pop xa (pv 5) (ae (pv 6) aq)) aq))))) zt) mj,?_⟩
   intro S g place l C H2 d D p1;have W:Wd text (Aw text " "):=⟨fun _ h=>zO h,ω,ω⟩;refine⟨_,rfl,rfl,_,rfl,bU (fun e=>?_) fun e=>fT S _ g place l C H2 d W (fun _=>rfl) D p1⟩;have e5:g=5:=by have:=of_decide_eq_true e;injection this
   obtain⟨t,et,mt,ia,ib,ic⟩:=oH D p1;refine⟨_,rfl,.inl ⟨rfl,_,SqL.of d.hS⟩,_,rfl,_,rfl,S,_,rfl,.inl (SqL.of d.hS),p,_,rfl,d.hb,by rw[Ab];omega,by rw[Ab];omega,fun i G i0 i1 cX X=>?_⟩;rw[Ab] at i1;have I:=d.take cX X;refine⟨_,rfl,.inl ⟨rfl,_,SqL.of I.hS⟩,_,rfl,S,_,_,place.toNat,_,rfl,rfl,I.hS,ω,ω,ib,ic,?_⟩;rw[Cu];obtain⟨s1,O⟩:=B0 (Aw text " ") place.toNat t et;have t4:=I.put (us:=(Aw text " ").eraseIdx place.toNat);refine⟨S,_,_,_,rfl,rfl,t4.hS,i0,by rw[Ab];omega,by rw[Ab];exact fA ω,?_⟩;rw[Cv];obtain⟨s3,s4⟩:=B3 ((Aw text " ").eraseIdx place.toNat) i.toNat t;exact fT S _ g place l C _ t4.put ⟨fun u hu=>by
     rcases List.mem_append.mp hu with z|z
     ·exact zO (List.mem_of_mem_eraseIdx (List.mem_of_mem_take z))
     ·rcases List.mem_cons.mp z with z|z
      ·rw[z];exact zO mt
      ·exact zO (List.mem_of_mem_eraseIdx (List.mem_of_mem_drop z)),ω,ω⟩ (fun z=>ω) D p1
  obtain⟨vo,mY,i6⟩:=R8;refine⟨_,ze (zr (i:=2) jZ.nd rfl (Or.inl rfl) (cB U hr rfl aw (ae (pv 0) (ae zh aq))))
   (ze (zr (i:=3) jZ.nd rfl (Or.inl rfl) (cB U hr rfl aw (ae (pv 0) (ae (zv dD (zm kC rfl B.len cP (ae (pv 1) aq)) zh) aq))))
   (ze (zr (i:=4) jZ.nd rfl (Or.inl rfl) (cQ qu pe_str (cB U hr rfl aw (ae (pv 0) (ae zh aq))) (fun _ _=>rfl)))
   (ze (zr (i:=5) jZ.nd rfl (Or.inl rfl) (zW AG PySem.F.slot_str_split PySem.F.type_str_split iR (pv 1) (ae pe_str aq)))
   (ze (zr (i:=6) jZ.nd rfl (Or.inl rfl) (cB U hr rfl aw (ae (pv 0) (ae (zm zl rfl B.len cP (ae (pv 5) aq)) aq))))
   (ze (zS (zq jl (pv 2) zh (au _)) (zg (zp (zv kr (ge jN (pv 1) gc (gd (pv 3))) (ge jN (pv 1) (gd (zv dD (pv 3) zh)) gc)))) zt)
   (ze (zS (zq jl (pv 2) zh (au _)) (zg (zp (zv kr (zv kr (ge jN (pv 1) gc (gd (pv 3))) (pv 4)) (ge jN (pv 1) (gd (pv 3)) gc)))) zt)
   (ze (zS (zq dI (pv 2) zh (au _)) (zg (zp (zv kr (zv kr (ge jN (pv 1) gc (gd (pv 3))) (pv 4)) (ge jN (pv 1) (gd (zv dD (pv 3) zh)) gc)))) zt)
   mY))))))),?_⟩
  refine⟨_,rfl,p,8,rfl,fW,ξ,ξ,fun g H1 w0 w1 fE hb1=>?_⟩;refine⟨_,rfl,_,rfl,_,rfl,zd ω,_,_,rfl,rfl,p,_,rfl,hb1,ω,ω,fun N H2 a0 a1 i8 eP=>?_⟩;refine⟨_,rfl,p,16,rfl,eP,ξ,ξ,fun sn G s0 s1 cX X=>?_⟩;obtain⟨c,ec⟩:∃c,("0123456789 -,\n+a":Str).cps.toList[sn.toNat]?=some c:=by
   have hl:("0123456789 -,\n+a":Str).cps.toList.length=16:=δ
   exact⟨_,Ao (by rw[hl];omega)⟩
  have nZ:=eN ec;rw[show((sn.toNat:Nat):Int)=sn from ω] at nZ;refine⟨_,_,c,rfl,rfl,zd δ,nZ,?_⟩;refine⟨_,rfl,rfl,_,_,rfl,rfl,ξ,zd ω,zd ω,fun S hS=>?_⟩;have cH:zP p G (upd G S (.lst ((Aw text " ").map V.str))):=zP.of (Same.new hS);have oA:S≠p:=fun z=>by obtain⟨x,y,e,_⟩:=X;rw[<-z,hS] at e;cases e
  have Y:zD (upd G S (.lst ((Aw text " ").map V.str))) p:=X.upd oA;have fj:=(fE.trans i8).trans cX;have d:Tw H (upd G S (.lst ((Aw text " ").map V.str))) p S (Aw text " "):=⟨fj.free fW X hS,am,fj.trans cH,Y,oA⟩;have hne:1<=(Aw text " ").length:=List.length_pos_iff.mpr (i_ _ _);refine⟨_,rfl,_,rfl,S,_,rfl,.inl (SqL.of am),p,_,rfl,Y,by rw[Ab];omega,by rw[Ab];omega,fun place H5 D p1 dz eJ=>?_⟩;rw[Ab] at p1;have t5:=d.take dz eJ;have l1:(⟨#[c]⟩:Str).length=1:=rfl;have done:∀t,jV text t->Q (.str t) H5:=fun t ht=>k t H5 ht t5.sb t5.hb;have cJ:0<=N/\N<=(text.length:Int):=⟨a0,ω⟩;have l2:(Txt.slice text none (some N)).length<=text.length:=by rw[<-fU,<-fU text,l9 cJ];exact List.length_take_le' _ _
  have l3:∀i:Int,0<=i->(Txt.slice text (some i) none).length<=text.length:=fun i hi=>by rw[<-fU,<-fU text,l_ hi,List.length_drop];omega
  have l4:(Txt.slice text none (some N)++(⟨#[c]⟩:Str)).length<=text.length+1:=by
   rw[<-fU,jc,Aq,fU,fU];omega
  have l5:=l3 N a0;have l6:=l3 (N+1) ω;have T:text.length<=sizeLine:=zd ω;refine⟨_,rfl,_,_,rfl,rfl,_,rfl,bU (fun e=>?_) fun e=>⟨_,rfl,_,_,rfl,rfl,_,rfl,bU (fun e=>?_) fun e=>⟨_,rfl,rfl,_,rfl,bU (fun e=>?_) fun e=>i6 S g place _ _ H5 t5 D p1⟩⟩⟩
  ·exact⟨_,rfl,_,rfl,_,rfl,_,rfl,T,_,rfl,_,rfl,_,_,rfl,rfl,_,rfl,_,rfl,T,_,_,rfl,rfl,zd ω,done _ (HD cJ)⟩
  ·exact⟨_,rfl,_,rfl,_,rfl,_,rfl,T,_,rfl,_,_,rfl,rfl,zd ω,_,rfl,_,rfl,_,rfl,_,rfl,T,_,_,rfl,rfl,zd ω,done _ (BY cJ (Int.le_refl _))⟩
  ·exact⟨_,rfl,_,rfl,_,rfl,_,rfl,T,_,rfl,_,_,rfl,rfl,zd ω,_,rfl,_,rfl,_,_,rfl,rfl,_,rfl,_,rfl,T,_,_,rfl,rfl,zd ω,done _ (BY cJ ω)⟩
end
abbrev bG:Stmt:=top 54
abbrev cU:List Str:=["script","box","text","turn","some","fives","due","found"]
def fF:zo cU ["script"] (zf bG):=⟨rfl,rfl,rfl,δ,rfl,δ,δ⟩
def IN:List Stmt->List Stmt
 |.If _ b _ _::_=>b
 |_=>[]
abbrev blk:List Stmt:=IN (List.drop 3 (zM bG))
def Gq(n m:Nat)(t:Str):Prop:=t.length<=n/\bl t<=m
instance (n m:Nat) (t:Str):Decidable (Gq n m t):=inferInstanceAs (Decidable (_/\_))
def Wf(n:Nat)(ws:List Str):Prop:=ws.length<=n/\∀t∈ws,t.length<=20/\32∉sg t
def Wf.join{n:Nat}{ws:List Str}(h:Wf n ws)(c:n<=25):JoinOk " " ws=true/\Gq 1000 25 (Txt.join " " ws):=by
 have hs:bj ws<=20*ws.length:=by
  have h2:=h.2;clear h c
  induction ws with
  |nil=>simp[bj]
  |cons a r ih=>
   rw[wc,Ap];have:=ih fun t ht=>h2 t (An _ ht);have:=(h2 a Aj).1;omega
 have h1:=h.1;obtain⟨a,b⟩:=BV (sep:=" ") (ws:=ws) rfl ω;refine⟨a,ω,?_⟩;rcases bl_join (fun t ht=>(h.2 t ht).2) with z|⟨_,z⟩<;>omega
def Wf.add{n m:Nat}{us ws:List Str}(h:Wf n us)(h':Wf m ws):Wf (n+m) (us++ws):=
 ⟨by rw[Aq];exact Nat.add_le_add h.1 h'.1,fun t ht=>by
  rcases List.mem_append.mp ht with z|z
  ·exact h.2 t z
  ·exact h'.2 t z⟩
def IP{i:Int}(h:0<=i/\i<=99):(fig i).length<=20/\32∉sg (fig i):=by
 obtain⟨_,_,c,d,_⟩:=lN h;exact⟨ω,fun z=>by have:=d 32 z;omega⟩
def IQ{p:List Int}(h:c8 p)(c:p.length<=5):(word p).length<=20/\32∉sg (word p):=
 ⟨AA (lO h c).2 ξ,fun z=>by
  rcases mem_word z with e|⟨x,hx,a⟩
  ·omega
  ·have:=(lN (h x hx)).2.2.2.1 _ a;omega⟩
structure Tz(H2 H3:Hp)(L:Addr)(ts:List Str):Prop where
 h0:H2 L=none
 hL:H3 L=some (.lst (ts.map V.str))
 s:Same H2 H3
 g:∀t∈ts,Gq 1000 25 t
def Tz.app{H2 c:Hp}{L:Addr}{a:List Str}{t:Str}(h:Tz H2 c L a)(ht:Gq 1000 25 t):Tz H2 (upd c L (.lst (a.map V.str++[V.str t]))) L (a++[t]):=
 ⟨h.h0,by rw[am,Au];rfl,h.s.then h.h0,fun u hu=>by
  rcases List.mem_append.mp hu with z|z
  ·exact h.g u z
  ·rw[List.mem_singleton.mp z];exact ht⟩
def Tz.same{H2 c d:Hp}{L:Addr}{a:List Str}(h:Tz H2 c L a)(s:Same c d):Tz H2 d L a:=⟨h.h0,s _ _ h.hL,h.s.trans s,h.g⟩
def Tz.cat{H2 a:Hp}{L T M:Addr}{c us:List Str}(h:Tz H2 a L c)(d:a T=none)(e:upd a T (.lst (us.map V.str)) M=none)(hu:∀t∈us,Gq 1000 25 t):Tz H2 (upd (upd a T (.lst (us.map V.str))) M (.lst (c.map V.str++us.map V.str))) M (c++us):=
 ⟨h.s.free ((Same.new d).free e),by rw[am,Au],(h.s.trans (Same.new d)).trans (Same.new e),fun u f=>by
  rcases List.mem_append.mp f with z|z
  ·exact h.g u z
  ·exact hu u z⟩
section
variable{P:Program}{w:World}{K:Ae}{mg:Str->Option Value}{base:Heap}
def oR{H2:Hp}{D:Addr}{n:Nat}{c:List (Option V)}{g:Nat->Str}{te:TE}{Q:VK}(o:∀(j:Nat)(H:Hp)(R:VK),j<n->(∀H',Same H H'->R (.str (g j)) H')->te (some (.int (0+j))::c) H R)(p:n<=100)(i:H2 D=none)(k:∀a,Same H2 a->a D=some (.lst (((AQ n).map g).map V.str))->Q (.ref D) a):cw (gn 0 n) (cm 0) bN te (none::c) H2 D Q:=by
 refine xR (fun j σ ys a=>∃v:Option V,σ=v::c/\Same H2 a/\a D=some (.lst ys)/\ys=(((AQ n).map g).take j).map V.str) ?_ ?_ ?_
 ·exact⟨none,rfl,Same.new i,am,rfl⟩
 ·rintro j σ ys a e hy ⟨v,rfl,f,d,rfl⟩
  have l:((AQ n).map g)[j]?=some (g j):=by rw[Ar,List.getElem?_range e];rfl
  refine cb (o j a _ e fun q h=>?_);exact bO (zd ω) e hy (h _ _ d) ⟨_,rfl,(f.trans h).then i,am,by rw[AN l,Au];rfl⟩
 ·rintro σ ys a ⟨v,rfl,f,d,rfl⟩
  rw[At (by simp)] at d;exact k a f d
abbrev CA:TE:=gb (fun xs H Q=>∃i:Int,xs=[.int i]/\i.natAbs.log2<1920/\Q (.str (toString i)) H) (zB (cV (fg fun i j=>.int (i+j)) (cV (fg fun i j=>.int (i+j)) (tC (.int 50)) (cV (rI CMul fun i j=>.int (i*j)) (tC (.int 5)) (aY 1))) (aY 0)) bJ)
abbrev CB(K:Ae):TE:=qD K "str" (rJoin K) (tC (.str "-")) (zB (er (wF (zB (tC (.int 5)) bJ)) [none,some 0] (cm 0) bN CA) bJ)
def jd(k:Nat):List Int:=(AQ 5).map fun(j:Nat)=>(50+5*(0+(k:Int))+(0+(j:Int)))
def CC{k:Nat}(h:k<6):c8 (jd k)/\(jd k).length<=5:=by
 refine⟨fun x hx=>?_,by unfold jd;simp⟩;obtain⟨j,a,rfl⟩:=List.mem_map.mp hx;have:=List.mem_range.mp a;omega
def IR(k:Nat):(jd k).map fig=(AQ 5).map fun(j:Nat)=>fig (50+5*(0+(k:Int))+(0+(j:Int))):=by unfold jd;rw[AK];rfl
def wu{f:Addr}{cdv:Value}{A:Around}{outer:List Env}{s:Shared}{H:Hp}{E:XK}(hr:Room 12 (bh aT P w K mg base cU "law" (zf bG) f cdv A outer s H E).A)(B:Bt mg)(ys:mg "str"=none)(M:Cl P w K mg base aT "_law_take" ["box","most"] 1 gh):∃C,PSs (bh aT P w K mg base cU "law" (zf bG) f cdv A outer s H E).nox (List.drop 6 blk) C/\
   ∀(D:Ends)(p L:Addr)(c:List Str)(d o h q:Option V)(H2 l:Hp),zD H2 p->Tz H2 l L c->c.length=25->
    (∀t u v H',Gq 1000 25 t->zP p H2 H'->zD H' p->D.nx [d,some (.ref p),some (.str t),h,u,v,none,none] H')->
    C D [d,some (.ref p),o,h,some (.ref L),q,none,none] l:=by
 refine⟨_,zg (zr (i:=2) fF.nd rfl (Or.inl rfl) (cQ zX (pv 4) (cB M hr rfl aw (ae (pv 1) (ae zh aq))) (fun _ _=>rfl))),?_⟩;intro D p L c d o h q H2 l hb a N k;refine⟨_,rfl,_,rfl,p,25,rfl,hb.same a.s,ξ,ξ,fun i J F i1 r j=>?_⟩;obtain⟨t,_,mt,G,_,_⟩:=oH (ws:=c) F ω;have I:L≠p:=fun z=>by obtain⟨x,y,e,_⟩:=hb;rw[<-z,a.h0] at e;cases e
 exact⟨L,_,_,_,rfl,rfl,SqL.of (r _ _ I a.hL),G,k t _ _ J (a.g t mt) ((zP.of a.s).trans r) j⟩
def wv{f:Addr}{cdv:Value}{A:Around}{outer:List Env}{s:Shared}{H:Hp}{E:XK}(hr:Room 12 (bh aT P w K mg base cU "law" (zf bG) f cdv A outer s H E).A)(B:Bt mg)(ys:mg "str"=none)(Ct:Cl P w K mg base aT "_law_take" ["box","most"] 1 gh):∃x,PSs (bh aT P w K mg base cU "law" (zf bG) f cdv A outer s H E).nox (List.drop 5 blk) x/\
   ∀(D:Ends)(p L F:Addr)(e fs:List Str)(a g c:Option V)(H2 d:Hp),zD H2 p->Tz H2 d L e->e.length=22->d F=some (.lst (fs.map V.str))->Wf 8 fs->
    (∀t u v H',Gq 1000 25 t->zP p H2 H'->zD H' p->D.nx [a,some (.ref p),some (.str t),c,u,v,none,none] H')->
    x D [a,some (.ref p),g,c,some (.ref L),some (.ref F),none,none] d:=by
 obtain⟨vm,O,Q⟩:=wu (f:=f) (cdv:=cdv) (A:=A) (outer:=outer) (s:=s) (H:=H) (E:=E) hr B ys Ct;refine⟨_,(ze (zr (i:=4) fF.nd rfl (Or.inl rfl) (zv eO (pv 4) (zI (ae (zW AG PySem.F.slot_str_join PySem.F.type_str_join fR pe_str (ae (zv eO (zI (ae pe_str aq)) (pv 5)) aq))
   (ae (zW AG PySem.F.slot_str_join PySem.F.type_str_join fR pe_str (ae (pv 5) aq)) (ae (zW AG PySem.F.slot_str_join PySem.F.type_str_join fR pe_str (ae (zv eO (zI (ae pe_str (ae pe_str aq))) (pv 5)) aq)) aq)))))) O),?_⟩
 intro D p L F e fs a g c H2 d hb I J j hf k;have Z:Wf 1 (["9"]:List Str):=⟨ξ,δ⟩;have rT:Wf 2 (["9","19"]:List Str):=⟨ξ,δ⟩;obtain⟨S,T⟩:=(Z.add hf).join ξ;obtain⟨U,W⟩:=hf.join ξ;obtain⟨X,Y⟩:=(rT.add hf).join ξ;have hfl:=hf.1;refine⟨_,rfl,rfl,zd (by simp),fun A1 l=>⟨_,rfl,A1,F,_,_,rfl,rfl,am,(Same.new l) _ _ j,by rw[Ab];exact zd (by simp;omega),fun B1 M=>?_⟩⟩;have y:=(Same.new (o:=.lst [.str "9"]) l).trans (Same.new (o:=.lst ([.str "9"]++fs.map V.str)) M);have C:=y _ _ j;have t7:=I.same y;refine⟨_,B1,(["9"]:List Str)++fs,rfl,rfl,SqL.of am,S,rfl,_,rfl,_,F,fs,rfl,rfl,SqL.of C,U,rfl,zd (by simp),fun A2 q=>⟨_,rfl,A2,F,_,_,rfl,rfl,am,(Same.new q) _ _ C,by rw[Ab];exact zd (by simp;omega),fun B2 h=>?_⟩⟩;have p_:=(Same.new (o:=.lst [.str "9",.str "19"]) q).trans (Same.new (o:=.lst ([.str "9",.str "19"]++fs.map V.str)) h);have G:=t7.same p_;refine⟨_,B2,(["9","19"]:List Str)++fs,rfl,rfl,SqL.of am,X,zd (by simp),fun T2 r=>⟨L,T2,_,_,rfl,rfl,(Same.new r) _ _ G.hL,am,by rw[Ab];exact zd (by simp;omega),fun M2 N=>?_⟩⟩;have t9:=G.cat (us:=[Txt.join " " ((["9"]:List Str)++fs),Txt.join " " fs,Txt.join " " ((["9","19"]:List Str)++fs)]) r N (fun t ht=>by
  rcases List.mem_cons.mp ht with z|ht
  ·rw[z];exact T
  rcases List.mem_cons.mp ht with z|ht
  ·rw[z];exact W
  ·rw[List.mem_singleton.mp ht];exact Y)
 exact Q D p M2 _ a g c _ H2 _ hb t9 (by simp[J]) k
def ww{f:Addr}{cdv:Value}{A:Around}{outer:List Env}{s:Shared}{H:Hp}{E:XK}(hr:Room 12 (bh aT P w K mg base cU "law" (zf bG) f cdv A outer s H E).A)(B:Bt mg)(ys:mg "str"=none)(Ct:Cl P w K mg base aT "_law_take" ["box","most"] 1 gh):∃I,PSs (bh aT P w K mg base cU "law" (zf bG) f cdv A outer s H E).nox (List.drop 4 blk) I/\
   ∀(D:Ends)(p L F:Addr)(c fs:List Str)(d l e:Option V)(H2 g:Hp),zD H2 p->Tz H2 g L c->c.length=20->g F=some (.lst (fs.map V.str))->Wf 8 fs->
    (∀t u v H',Gq 1000 25 t->zP p H2 H'->zD H' p->D.nx [d,some (.ref p),some (.str t),e,u,v,none,none] H')->
    I D [d,some (.ref p),l,e,some (.ref L),some (.ref F),none,none] g:=by
 obtain⟨u8,mR,iM⟩:=wv (f:=f) (cdv:=cdv) (A:=A) (outer:=outer) (s:=s) (H:=H) (E:=E) hr B ys Ct;refine⟨_,ze (zr (i:=4) fF.nd rfl (Or.inl rfl) (zv eO (pv 4) (zI (ae (zW AG PySem.F.slot_str_join PySem.F.type_str_join fR pe_str (ae (zz cU ["k"] [none] (gT rfl B.range (ae zh aq)) (fun a C s₀ H₀ ex=>zn (i:=0) (cz ["k"]) rfl (Or.inl rfl)) (fun a C s₀ H₀ ex=>zG) (fun a C s₀ H₀ ex=>zw kw rfl ys lP (ae (pv 0) aq)) (hfr:=bP δ)) aq))
   (ae (zW AG PySem.F.slot_str_join PySem.F.type_str_join fR pe_str (ae (zz cU ["k"] [none] (gT rfl B.range (ae zh aq)) (fun a C s₀ H₀ ex=>zn (i:=0) (cz ["k"]) rfl (Or.inl rfl)) (fun a C s₀ H₀ ex=>zG) (fun a C s₀ H₀ ex=>zw kw rfl ys lP (ae (pv 0) aq)) (hfr:=bP δ)) aq)) aq))))) mR,?_⟩
 intro D p L F c fs d l e H2 g hb O Q S hf k;have J:∀n:Nat,n<=21->Wf n ((AQ n).map fun(j:Nat)=>fig (0+(j:Int))):=fun n U=>⟨by simp,fun t ht=>by
  obtain⟨j,r,rfl⟩:=List.mem_map.mp ht;have:=List.mem_range.mp r;exact IP ⟨ω,ω⟩⟩
 have hs:∀n:Nat,n<=21->∀(j:Nat)(H:Hp)(R:VK),j<n->(∀H',Same H H'->R (.str (fig (0+(j:Int)))) H')->ja [some (.int (0+j))] H R:=fun n U j H R r h=>⟨_,rfl,_,rfl,vR _ ω,h H (Same.refl _)⟩;obtain⟨rJ,oQ⟩:=(J 20 ξ).join ξ;obtain⟨sy,o8⟩:=(J 21 ξ).join ξ;refine⟨_,rfl,rfl,20,rfl,ξ,ξ,fun D1 W=>zA (oR (n:=20) (hs 20 ξ) ξ W fun H4 x X=>⟨_,D1,_,rfl,rfl,SqL.of X,rJ,rfl,21,rfl,ξ,ξ,fun D2 Y=>zA (oR (n:=21) (hs 21 ξ) ξ Y fun H5 y Z=>⟨_,D2,_,rfl,rfl,SqL.of Z,sy,zd (by simp),fun T q=>?_⟩)⟩)⟩;have N:=(O.same x).same y;have q8:=y _ _ (x _ _ S);refine⟨L,T,_,_,rfl,rfl,(Same.new q) _ _ N.hL,am,by rw[Ab];exact zd (by simp;omega),fun M G=>?_⟩;have t6:=N.cat (us:=[Txt.join " " ((AQ 20).map fun(j:Nat)=>fig (0+(j:Int))),Txt.join " " ((AQ 21).map fun(j:Nat)=>fig (0+(j:Int)))]) q G (fun t ht=>by
  rcases List.mem_cons.mp ht with z|z
  ·rw[z];exact oQ
  ·rw[List.mem_singleton.mp z];exact o8)
 have qt:=(Same.new (o:=.lst (c.map V.str++[V.str (Txt.join " " ((AQ 20).map fun(j:Nat)=>fig (0+(j:Int)))),V.str (Txt.join " " ((AQ 21).map fun(j:Nat)=>fig (0+(j:Int))))])) G) _ _ ((Same.new q) _ _ q8);exact iM D p M F _ fs d l e H2 _ hb t6 (by simp[Q]) qt hf k
def wx{f:Addr}{cdv:Value}{A:Around}{outer:List Env}{s:Shared}{H:Hp}{E:XK}(hr:Room 12 (bh aT P w K mg base cU "law" (zf bG) f cdv A outer s H E).A)(B:Bt mg)(ys:mg "str"=none)(Ct:Cl P w K mg base aT "_law_take" ["box","most"] 1 gh):∃J,PSs (bh aT P w K mg base cU "law" (zf bG) f cdv A outer s H E).nox (List.drop 3 blk) J/\
   ∀(D:Ends)(p L:Addr)(d:List Str)(e r l z:Option V)(H2 y:Hp),zD H2 p->Tz H2 y L d->d.length=20->
    (∀t u v H',Gq 1000 25 t->zP p H2 H'->zD H' p->D.nx [e,some (.ref p),some (.str t),l,u,v,none,none] H')->
    J D [e,some (.ref p),r,l,some (.ref L),z,none,none] y:=by
 obtain⟨vX,X,Y⟩:=ww (f:=f) (cdv:=cdv) (A:=A) (outer:=outer) (s:=s) (H:=H) (E:=E) hr B ys Ct;refine⟨_,ze (zr (i:=5) fF.nd rfl (Or.inl rfl) (zv eO (zI (ae pe_str (ae pe_str aq))) (zc cU ["k"] [none] (gT rfl B.range (ae zh aq)) (fun a C s₀ H₀ ex=>zn (i:=0) (cz ["k"]) rfl (Or.inr rfl)) (fun a C s₀ H₀ ex=>zG)
  (fun a C s₀ H₀ ex=>zW AG PySem.F.slot_str_join PySem.F.type_str_join fR pe_str (ae (zz ["k"] ["j","k"] [none,some 0] (gT rfl B.range (ae zh aq)) (fun a C s₀ H₀ ex=>zn (i:=0) (cz ["j","k"]) rfl (Or.inl rfl)) (fun a C s₀ H₀ ex=>zG)
   (fun a C s₀ H₀ ex=>zw kw rfl ys lP (ae (zv dD (zv dD zh (zv iA zh (pv 1))) (pv 0)) aq)) (hfr:=z_ rfl δ) (te:=CA)) aq)) (hfr:=bP δ) (te:=CB K)))) X,?_⟩
 intro D p L d e r l z H2 y hb M N k;have x:∀(k:Nat)(H:Hp)(R:VK),k<6->(∀H',Same H H'->R (.str (word (jd k))) H')->CB K [some (.int (0+k))] H R:=fun k H R hk h=>by
  obtain⟨f1,f2⟩:=CC hk;refine⟨rfl,5,rfl,ξ,ξ,fun D5 O=>zA (oR (n:=5) (c:=[some (.int (0+k))]) (g:=fun(j:Nat)=>fig (50+5*(0+(k:Int))+(0+(j:Int)))) (fun j H R hj h=>?_) ξ O fun H' Q G=>?_)⟩
  ·exact⟨_,rfl,_,_,rfl,rfl,.inl ⟨ξ,ξ⟩,_,_,rfl,rfl,_,rfl,_,_,rfl,rfl,_,rfl,vR _ ω,h H (Same.refl _)⟩
  ·rw[<-IR] at G
   exact⟨_,D5,_,rfl,rfl,SqL.of G,(lO f1 f2).1,h H' Q⟩
 refine⟨zd (by simp),fun A1 S=>⟨6,rfl,ξ,ξ,fun D6 T=>zA (oR (n:=6) x ξ T fun H4 I U=>?_)⟩⟩;have Z:=(Same.new (o:=.lst [.str "30-31-32",.str "40-41-42"]) S).trans I;refine⟨A1,D6,_,_,rfl,rfl,I _ _ am,U,by rw[Ab];exact zd (by simp),fun F W=>?_⟩;refine Y D p L F d ((["30-31-32","40-41-42"]:List Str)++(AQ 6).map fun k=>word (jd k)) e r l H2 _ hb ((M.same Z).same (Same.new W)) N am (Wf.add (n:=2) (m:=6) ⟨ξ,δ⟩ ⟨by simp,fun t ht=>?_⟩) k;obtain⟨q,hq,rfl⟩:=List.mem_map.mp ht;obtain⟨f1,f2⟩:=CC (List.mem_range.mp hq);exact IQ f1 f2
end
@[irreducible] def fG:List Stmt:=blk
def IS:List Expr:=match blk with
 |.Assign _ (.List E _) _::_=>E
 |_=>[]
def w8:∃E:List Expr,fG=.Assign [.Name "some" ⟨232,8,232,12⟩] (.List E ⟨232,15,232,105⟩) ⟨232,8,232,105⟩::List.drop 1 blk/\∀X:Cx,PA X E (zB (tC (.str "")) (zB (tC (.str " ")) (zB (tC (.str "-")) (zB (tC (.str "0-0")) (zB (tC (.str "1-0")) (zB (tC (.str "0-1-2-3-4")) (zB (tC (.str "0-1-2-3-4-5")) (zB (tC (.str "00")) (zB (tC (.str "01")) (zB (tC (.str "100")) (zB (tC (.str "-1")) (zB (tC (.str "0 0-1")) bJ)))))))))))):=
 ⟨IS,by kernel_rfl,fun X=>mh (mh (mh aq))⟩
section
variable{P:Program}{w:World}{K:Ae}{mg:Str->Option Value}{base:Heap}
def IT{f:Addr}{cdv:Value}{A:Around}{outer:List Env}{s:Shared}{H:Hp}{E:XK}(hr:Room 12 (bh aT P w K mg base cU "law" (zf bG) f cdv A outer s H E).A)(B:Bt mg)(ys:mg "str"=none)(Y:Cl P w K mg base aT "_law_take" ["box","most"] 1 gh):∃g,PSs (bh aT P w K mg base cU "law" (zf bG) f cdv A outer s H E).nox fG g/\
   ∀(D:Ends)(p:Addr)(a d c r e:Option V)(H2:Hp),zD H2 p->
    (∀t u v H',Gq 1000 25 t->zP p H2 H'->zD H' p->D.nx [a,some (.ref p),some (.str t),c,u,v,none,none] H')->
    g D [a,some (.ref p),d,c,r,e,none,none] H2:=by
 obtain⟨Z,G,I⟩:=wx (f:=f) (cdv:=cdv) (A:=A) (outer:=outer) (s:=s) (H:=H) (E:=E) hr B ys Y;have X:∃g,PSs (bh aT P w K mg base cU "law" (zf bG) f cdv A outer s H E).nox (List.drop 1 blk) g/\
   ∀(D:Ends)(p L:Addr)(j:List Str)(a d c e:Option V)(H2 o:Hp),zD H2 p->Tz H2 o L j->j.length=12->
    (∀t u v H',Gq 1000 25 t->zP p H2 H'->zD H' p->D.nx [a,some (.ref p),some (.str t),c,u,v,none,none] H')->
    g D [a,some (.ref p),d,c,some (.ref L),e,none,none] o:=by
  refine⟨_,ze (fM (zW AU PySem.F.slot_list_append PySem.F.type_list_append gC (pv 4) (ae pe_str aq)))
   (ze (zr (i:=4) fF.nd rfl (Or.inl rfl) (zv eO (pv 4) (zI (ae pe_str (ae pe_str (ae pe_str (ae pe_str (ae pe_str (ae pe_str (ae pe_str aq)))))))))) G),?_⟩
  intro D p L j a d c e H2 o hb l z k;have S:∀t∈(["0-1 1-2","1-2 0-1","0-1 0-1","0 1 2\n","0  1","5 0-1","99"]:List Str),Gq 1000 25 t:=δ
  have h:Gq 1000 25 "0-1 0":=δ
  refine⟨_,rfl,.inl ⟨rfl,_,SqL.of l.hL⟩,L,_,_,rfl,rfl,l.hL,by rw[Ab];exact fA ω,?_⟩;have y:=l.app h;refine⟨_,rfl,zd (by simp),fun T q=>⟨L,T,_,_,rfl,rfl,(Same.new q) _ _ y.hL,am,by rw[Ab];exact zd (by simp;omega),fun M C=>?_⟩⟩;have U:=y.cat (us:=["0-1 1-2","1-2 0-1","0-1 0-1","0 1 2\n","0  1","5 0-1","99"]) q C S;exact I D p M _ a d c _ H2 _ hb U (by simp[z]) k
 obtain⟨vw,J,N⟩:=X;obtain⟨EL,O,Q⟩:=w8;rw[O];refine⟨_,ze (zr (i:=4) fF.nd rfl (Or.inl rfl) (zI (Q _))) J,?_⟩;intro D p a d c r e H2 hb k;refine⟨zd (by simp),fun L x=>?_⟩;have W:∀t∈([""," ","-","0-0","1-0","0-1-2-3-4","0-1-2-3-4-5","00","01","100","-1","0 0-1"]:List Str),Gq 1000 25 t:=δ
 exact N D p L [""," ","-","0-0","1-0","0-1-2-3-4","0-1-2-3-4-5","00","01","100","-1","0 0-1"] a d c e H2 _ hb ⟨x,am,Same.new x,W⟩ rfl k
end
end K8
end
section
set_option maxHeartbeats 1000000
namespace K8
open K1 Tx
open PySem L2 STb
def Ak(t:Str):Prop:=t.length<=50000/\(wsT t).length<=30
def j0(i:Nat)(t:Str):Prop:=t.length+2<=3202*2 ^ i/\bl t<=20+i
def IU{i:Nat}{t u:Str}(h:j0 i t)(hc:jV t u):j0 (i+1) u:=by
 obtain⟨a,b⟩:=h;obtain⟨c,d⟩:=hc;refine⟨?_,ω⟩;rw[Nat.pow_succ];omega
def IV{i:Nat}{t:Str}(h:j0 i t)(hi:i<=2):Ak t:=by
 obtain⟨a,b⟩:=h;have:2 ^ i<=2 ^ 2:=Nat.pow_le_pow_right ξ hi;have e:=oB t;exact⟨ω,by show(Aw t " ").length<=30;omega⟩
def IW{t:Str}(h:Gq 1000 25 t):Ak t:=by
 obtain⟨a,b⟩:=h;have e:=oB t;exact⟨ω,by show(Aw t " ").length<=30;omega⟩
def wy{pss:Ξ}(h:∀p∈pss,c8 p/\p.length<=5)(c:pss.length<=20):j0 0 (text pss):=by
 refine⟨by have:=(vL h ω).2;omega,?_⟩
 by_cases a:pss=[]
 ·rw[a]
  have:bl (text [])=0:=δ
  omega
 ·have:=oB (text pss)
  rw[BC (fun p hp=>(h p hp).1) a,Ab] at this;omega
abbrev IX(K:Ae):TE:=qD K "str" (rJoin K) (tC (.str "-")) (zB (er (ix K (aY 0)) [none] (cm 0) bN ja) bJ)
def lS(i:Nat):Stmt:=(zM bG).getD i (.Pass ⟨0,0,0,0⟩)
def lC:Expr:=.Compare (.Call (.Name "_law_take" ⟨231,7,231,16⟩) [.Name "box" ⟨231,17,231,20⟩,.Constant (.int 5) 0 ⟨231,22,231,23⟩] [] ⟨231,7,231,24⟩) [.Eq] [.Constant (.int 1) 0 ⟨231,28,231,29⟩] ⟨231,7,231,29⟩
def IY:zM bG=[lS 0,lS 1,lS 2,.If lC fG [] ⟨231,4,238,39⟩,lS 4,lS 5,lS 6,lS 7]:=by kernel_rfl
section
variable{P:Program}{w:World}{K:Ae}{mg:Str->Option Value}{base:Heap}
def oS(K:Ae):Sp:=fun vs H Q _=>∃(a:Addr)(ns:List Int),vs=[.ref a]/\SqL K H a (ns.map V.int)/\ns.length<=63/\∀H',Q (.bl true) H'
def IZ{f:Addr}{cdv:Value}{A:Around}{outer:List Env}{s:Shared}{H:Hp}{Q:VK}{E:XK}(hr:Room 12 (bh aT P w K mg base cU "law" (zf bG) f cdv A outer s H E).A)(k:∀H',Q (.bl true) H')(U:Cl P w K mg base aT "_law_written" ["text"] 4 (wn K))(j:Cl P w K mg base aT "_law_asked" ["text"] 12 (wt K)):∃z,PSs (bh aT P w K mg base cU "law" (zf bG) f cdv A outer s H E).nox (List.drop 4 (zM bG)) z/\
   ∀(t:Str)(l o p q r:Option V)(H2:Hp),Ak t->
    z {nx:=fun _ H'=>Q .non H',rt:=Q} [l,o,some (.str t),p,q,r,none,none] H2:=by
 have C:=hr.units;refine⟨_,ze (zr (i:=6) fF.nd rfl (Or.inl rfl) (cB U hr rfl aw (ae (pv 2) aq)))
  (ze (zr (i:=7) fF.nd rfl (Or.inl rfl) (cB j hr rfl aw (ae (pv 2) aq)))
  (ze (zS (zq Dh (pv 6) im (au _)) (zg (zp (wA (gY dI (pv 7) pe_str (au _)) (wz (gY dI (cB j hr rfl aw (ae (pv 2) aq)) pe_str (au _)))))) zt)
  (zg (zp (wA (gY (x0 C) (pv 7) (pv 6) (au _)) (wz (gY (x0 C) (cB j hr rfl aw (ae (pv 2) aq)) (pv 6) (au _)))))))),?_⟩
 intro t l o p q r H2 a;have e:=HK t;refine⟨_,rfl,t,rfl,a.1,a.2,?_⟩;cases hwr:fY t with
 |none=>
  rw[hwr] at e;refine .inr ⟨rfl,fun N D=>⟨_,rfl,t,rfl,a.1,a.2,.inr ⟨e,fun O c=>⟨_,rfl,rfl,_,rfl,?_⟩⟩⟩⟩;rw[show decide (V.non=V.non)=true from decide_eq_true rfl];refine be ⟨_,rfl,rfl,_,rfl,?_⟩;rw[decide_eq_true rfl];refine be ⟨_,rfl,t,rfl,a.1,a.2,.inr ⟨e,fun g d=>⟨rfl,?_⟩⟩⟩;rw[decide_eq_true rfl];exact k g
 |some pss=>
  rw[hwr] at e;refine .inl ⟨pss,rfl,fun h u N D _ v x=>⟨_,rfl,t,rfl,a.1,a.2,.inl ⟨pss,e,fun S F O c _ G I=>⟨_,rfl,rfl,_,rfl,?_⟩⟩⟩⟩;rw[show decide (V.ref h=V.non)=false from decide_eq_false (by intro y;cases y)];refine bg ⟨_,rfl,_,rfl,.inr ⟨S,h,F,u,pss,pss,rfl,rfl,SqL.of G,I,SqL.of (c _ _ v),c.tps x,?_⟩⟩;rw[if_neg ξ,decide_eq_true rfl];refine⟨_,rfl,be ⟨_,rfl,t,rfl,a.1,a.2,.inl ⟨pss,e,fun T J g d _ L M=>⟨_,rfl,.inr ⟨T,h,J,u,pss,pss,rfl,rfl,SqL.of L,M,SqL.of (d _ _ (c _ _ v)),d.tps (c.tps x),?_⟩⟩⟩⟩⟩;rw[if_neg ξ,decide_eq_true rfl];exact k g
def I0{f:Addr}{fd:FuncData}(F:Fun K "law" "law" bG f fd)(B:Bt mg)(ys:mg "str"=none)(Cc:Cl P w K mg base aT "_law_cell_at" ["script","k"] 1 (yH K))(Cb:Cl P w K mg base aT "_law_box" ["cell"] 1 yI)(U:Cl P w K mg base aT "_law_take" ["box","most"] 1 gh)(Ce:Cl P w K mg base aT "_law_web" ["box"] 3 yM)(Cg:Cl P w K mg base aT "_law_greatest" ["web"] 3 (vH K))(Ch:Cl P w K mg base aT "_law_changed" ["box","text"] 2 Cz)(Cw:Cl P w K mg base aT "_law_written" ["text"] 4 (wn K))(Ca:Cl P w K mg base aT "_law_asked" ["text"] 12 (wt K)):FnOk P w K mg base aT 13 f fd ["script"] (oS K):=by
 refine F.ok fF (fun vs H Q E h=>?_) (fun cdv A outer s H vs Q E hr h=>?_)
 ·obtain⟨a,ns,rfl,_⟩:=h;rfl
 ·obtain⟨a,ns,rfl,hS,hn,k⟩:=h
  obtain⟨t4,Y,Z⟩:=IZ (f:=f) (cdv:=cdv) (A:=A) (outer:=outer) (s:=s) (H:=H) (Q:=Q) (E:=E) hr k Cw Ca;obtain⟨tb,hb,eb⟩:=IT (f:=f) (cdv:=cdv) (A:=A) (outer:=outer) (s:=s) (H:=H) (E:=E) hr B ys U;have oG:=IY;have ki:PSs (bh aT P w K mg base cU "law" (zf bG) f cdv A outer s H E).nox [lS 4,lS 5,lS 6,lS 7] t4:=by rw[oG] at Y;exact Y
  rw[oG];have rG:∃te,PSs (bh aT P w K mg base cU "law" (zf bG) f cdv A outer s H E).nox (.If lC fG [] ⟨231,4,238,39⟩::[lS 4,lS 5,lS 6,lS 7]) te/\
    ∀(p:Addr)(t:Str)(d e:Option V)(H2:Hp),zD H2 p->Ak t->
     te {nx:=fun _ H'=>Q .non H',rt:=Q} [d,some (.ref p),some (.str t),e,none,none,none,none] H2:=by
   refine⟨_,ze (zS (zq dI (cB U hr rfl aw (ae (pv 1) (ae zh aq))) zh (au _)) hb zt) ki,?_⟩;intro p t d e l c ak;refine⟨_,rfl,p,5,rfl,c,ξ,ξ,fun r' T _ _ dz v=>⟨rfl,_,rfl,bU (fun _=>?_) (fun _=>Z t _ _ _ _ _ T ak)⟩⟩;exact eb _ p d _ _ _ _ T v fun t' W v' H' g _ _=>Z t' _ _ _ _ _ H' (IW g)
  obtain⟨t3,h3,e3⟩:=rG;have ni:∃te,PSs (bh aT P w K mg base cU "law" (zf bG) f cdv A outer s H E).nox (lS 2::.If lC fG [] ⟨231,4,238,39⟩::[lS 4,lS 5,lS 6,lS 7]) te/\
    ∀(p:Addr)(t:Str)(d:Option V)(H2:Hp),zD H2 p->j0 0 t->
     te {nx:=fun _ H'=>Q .non H',rt:=Q} [d,some (.ref p),some (.str t),none,none,none,none,none] H2:=by
   refine⟨_,ze (ee Bc rfl (gT rfl B.range (ae (zv dD zh (cB U hr rfl aw (ae (pv 1) (ae zh aq)))) aq)) (zn (i:=3) fF.nd rfl (Or.inl rfl))
    (zg (zr (i:=2) fF.nd rfl (Or.inl rfl) (cB Ch hr rfl aw (ae (pv 1) (ae (pv 2) aq)))))) h3,?_⟩
   intro p t d H2 fW ct;refine⟨_,rfl,p,2,rfl,fW,ξ,ξ,fun r q r0 r1 cX bW=>⟨_,_,rfl,rfl,_,rfl,ω,ω,?_⟩⟩;refine pj (lo:=0) (n:=(1+r).toNat) (fun i σ l=>∃(u:Str)(e:Option V),σ=[d,some (.ref p),some (.str u),e,none,none,none,none]/\zD l p/\j0 i u)
    ⟨t,none,rfl,bW,ct⟩ ?_ ?_
   ·rintro i σ l hi ⟨u,e,rfl,c,o⟩
    have S:i<=1:=ω
    have:2 ^ i<=2 ^ 1:=Nat.pow_le_pow_right ξ S;refine⟨_,rfl,_,rfl,p,u,rfl,c,by have:=o.1;omega,fun W T hc dz v=>⟨W,_,rfl,v,IU o hc⟩⟩
   ·rintro σ l ⟨u,e,rfl,c,o⟩
    exact e3 p u _ _ l c (IV o ω)
  obtain⟨t2,h2,e2⟩:=ni;refine⟨_,ze (zr (i:=1) fF.nd rfl (Or.inl rfl) (cB Cb hr rfl aw (ae (cB Cc hr rfl aw (ae (pv 0) (ae zh aq))) aq)))
   (ze (zr (i:=2) fF.nd rfl (Or.inl rfl) (zW AG PySem.F.slot_str_join PySem.F.type_str_join fR pe_str (ae (zz cU ["piece"] [none] (zF (cB Cg hr rfl aw (ae (cB Ce hr rfl aw (ae (pv 1) aq)) aq))) (fun j C s₀ H₀ ex=>zn (i:=0) (cz ["piece"]) rfl (Or.inl rfl)) (fun j C s₀ H₀ ex=>zG)
    (fun j C s₀ H₀ ex=>zW AG PySem.F.slot_str_join PySem.F.type_str_join fR pe_str (ae (zz ["piece"] ["point"] [none] (jk (pv 0)) (fun j C s₀ H₀ ex=>zn (i:=0) (cz ["point"]) rfl (Or.inl rfl)) (fun j C s₀ H₀ ex=>zG)
     (fun j C s₀ H₀ ex=>zw kw rfl ys lP (ae (pv 0) aq)) (hfr:=bP δ)) aq)) (hfr:=bP δ) (te:=IX K)) aq)))
   h2),?_⟩
  refine⟨_,rfl,a,ns,rfl,hS,fun n=>⟨n,rfl,fun p x y hp bo=>?_⟩⟩;refine⟨rfl,_,rfl,p,rfl,⟨x,y,am,bo⟩,fun O os pss H1 fE z vb rs ko rA=>?_⟩;obtain⟨hw,jQ,vq⟩:=Gf rA;obtain⟨L,M,h5,h200⟩:=lG hw;obtain⟨N,h_,_⟩:=BH hw;have lX:(tops (canon pss)).length<=20:=AA (yS pss) L;refine⟨O,os,pss,rfl,SqL.of rs,ko,M,ω,by rw[i4];omega,fun G H2 gs e_ qL X hg=>⟨G,rfl,⟨_,SqL.of X⟩,fun D I=>zA (BG (fun a ps H R g1 g2 g3 g4=>⟨rfl,_,rfl,a,rfl,⟨_,SqT.of g1⟩,fun D I=>zA (BE g1 g2 g3 I fun q sm J=>⟨_,D,_,rfl,rfl,SqL.of J,(lO g3 g2).1,g4 q sm⟩)⟩) (SqL.of X) hg N ω I fun q aB J=>⟨_,D,_,rfl,rfl,SqL.of J,(vL N h_).1,?_⟩)⟩⟩;exact e2 p (text (tops (canon pss))) _ q ((z.same e_).same aB) (wy N lX)
end
end K8
end
section
namespace K8
open K1
open PySem L2 STb
def I_{l:PySem.W.OpenLaw}{w:World}{K:Ae}{h:Heap}{mg:Str->Option Value}{fa f1 f2 f3 f4 f5 f6 f7 f8 f9 eD tR tQ uE pW qT ub pQ tS uU p9 ur uj sO pS qx uw qz qj uX tE sf sY e0 e1 e2 e3 e4 e5 e6 e7 e8 e9 a eS:Addr}{tp tq tr ts tt tv:Tok}(X:K.In h)(G:h.Ns mainGlobals mg)(pY:mg "law"=some (.ref fa))(d1:Df K "is_piece" nQ f1)(d2:Df K "parts_of" jG f2)(d3:Df K "rims_of" lI f3)(d4:Df K "order_key" eE f4)(d5:Df K "in_order" jI f5)(d6:Df K "all_parts" sAll f6)(d7:Df K "greatest_of" lL f7)(d8:Df K "is_web" nU f8)(d9:Df K "must_be_web" ol f9)(ku:Df K "pieces" oo eD)(qO:Df K "greatest" gK tR)(qc:Df K "shown" vM tQ)(uM:Df K "shown_piece" oy uE)(ui:Df K "read" we pW)(rj:Df K "read_piece" v8 qT)(tI:Df K "read_point" v7 ub)(tu:Df K "read_number" v6 pQ)(pL:Df K "_law_cell_at" uV tS)(qR:Df K "_law_box" iW uU)(qH:Df K "_law_take" lr p9)(u3:Df K "_law_parts" lu ur)(rY:Df K "_law_pieces" n8 uj)(qB:Df K "_law_known" n_ sO)(uq:Df K "_law_named" lD pS)(sR:Df K "_law_web" iY qx)(tW:Df K "_law_greatest" ou uw)(rD:Df K "_law_which" ii qz)(qA:Df K "_law_point" wj qj)(ss:Df K "_law_written" wl uX)(tX:Df K "_law_changed" da tE)(rK:Df K "_law_asked" wq sf)(nH:Df K "law" bG sY)(gp:Nn K "MOST_POINTS" (some (.int 5 tp)))(gq:Nn K "LAST_POINT" (some (.int 99 tq)))(gr:Nn K "MOST_HANDED" (some (.int 20 tr)))(gs:Nn K "MOST_PIECES" (some (.int 200 ts)))(gt:Nn K "FIGURES" (some (.str "0123456789" tt)))(gv:Nn K "MOST_FIGURES" (some (.int 2 tv)))(tM:Nn K "NoWeb" (some (.ref e0)))(uc:Nn K "NoPiece" (some (.ref e1)))(sQ:Nn K "NoChain" (some (.ref e2)))(rd:Nn K "NotClosed" (some (.ref e3)))(tO:Nn K "NoTable" (some (.ref e4)))(qm:Nn K "NoGoal" (some (.ref e5)))(t0:Nn K "NoPush" (some (.ref e6)))(tY:Nn K "NoMap" (some (.ref e7)))(pN:Nn K "NoOrder" (some (.ref e8)))(uY:Nn K "NoNumber" (some (.ref e9)))(o:Nn K "NoNote" (some (.ref a)))(q9:Nn K "SeamError" (some (.ref eS)))(oO:PySem.W.excIn K a jb "ValueError.__new__"=true)(pP:Mk K a e0 e1 e2 e3 e4 e5 e6 e7 e8 e9 a 10)(uu:gN K a eS)(z1:Nn K "len" none)(z2:Nn K "all" none)(z3:Nn K "zip" none)(z4:Nn K "sorted" none)(z5:Nn K "set" none)(z6:Nn K "list" none)(z7:Nn K "tuple" none)(z8:Nn K "range" none)(z9:Nn K "enumerate" none)(sC:Nn K "int" none)(ut:Nn K "isinstance" none)(qC:Nn K "reversed" none)(ug:Nn K "bool" none)(rO:Nn K "ValueError" none)(nX:Nn K "str" none):∃fd:FuncData,(∀(s:Shared)(v:Value),BindsTo s fd ⟨[v],[]⟩ [("script",v)])/\∀base:Heap,K.In base->base.Ns mainGlobals mg->FnOk l.prog w K mg base aT 13 fa fd ["script"] (oS K):=by
 cases pY.symm.trans (nH.m X G);have B:Bt mg:=⟨z1.n X G,z2.n X G,z3.n X G,z4.n X G,z5.n X G,z6.n X G,z7.n X G,z8.n X G,z9.n X G,sC.n X G,ut.n X G,qC.n X G,ug.n X G⟩;obtain⟨g1,F1,b1,m1⟩:=d1.g1 X G "numbers";obtain⟨g2,F2,x,m2⟩:=d2.g1 X G "piece";obtain⟨g3,F3,b3,m3⟩:=d3.g1 X G "piece";obtain⟨g4,p,c,d⟩:=d4.g1 X G "piece";obtain⟨g5,q,f,g⟩:=d5.g1 X G "some";obtain⟨g6,r,y,z⟩:=d6.g1 X G "some";obtain⟨g7,F7,b7,m7⟩:=d7.g1 X G "every";obtain⟨g8,u,A,C⟩:=d8.g1 X G "web";obtain⟨g9,F9,b9,m9⟩:=d9.g1 X G "web";obtain⟨vc,D,pV,kF⟩:=ku.g1 X G "web";obtain⟨vW,E,tG,tZ⟩:=qO.g1 X G "web";obtain⟨vz,F,rZ,um⟩:=qc.g1 X G "web";obtain⟨u7,H,qi,sH⟩:=uM.g1 X G "piece";obtain⟨vQ,I,s_,u5⟩:=ui.g1 X G "text";obtain⟨vI,J,uN,qG⟩:=rj.g1 X G "word";obtain⟨vS,L,uG,uB⟩:=tI.g1 X G "figures";obtain⟨u6,M,uP,sJ⟩:=tu.g2 X G "figures" "most";obtain⟨vG,N,rM,sU⟩:=pL.g2 X G "script" "k";obtain⟨ve,O,qF,uk⟩:=qR.g1 X G "cell";obtain⟨oQ,i,Q,S⟩:=qH.g2 X G "box" "most";obtain⟨o8,uC,sM,uA⟩:=u3.g1 X G "piece";obtain⟨vN,j,T,U⟩:=rY.g1 X G "web";obtain⟨va,rz,ud,qX⟩:=qB.g1 X G "number";obtain⟨vh,ql,q_,sL⟩:=uq.g2 X G "box" "web";obtain⟨vi,Y,p7,uz⟩:=sR.g1 X G "box";obtain⟨vd,Z,r_,tF⟩:=tW.g1 X G "web";obtain⟨vC,oN,sw,sG⟩:=rD.g1 X G "e";obtain⟨vn,oX,qQ,tU⟩:=qA.g1 X G "word";obtain⟨vx,pG,uH,uL⟩:=ss.g1 X G "text";obtain⟨vt,nW,qV,qE⟩:=tX.g2 X G "box" "text";obtain⟨vk,oM,qM,rB⟩:=rK.g1 X G "text";obtain⟨⟨gL,FL⟩,_⟩:=nH;refine⟨gL,?_,fun base _ _=>?_⟩
 ·obtain⟨_,_,_,_,_,_,_,_,_,rfl,_,_⟩:=FL.ex;exact fun s v=>.of_eq rfl
 have nn:=yF (P:=l.prog) (w:=w) (base:=base) r B F2 x m2 q f g p c d;have jh:=FG (P:=l.prog) (w:=w) (base:=base) u B (gp.m X G) (gq.m X G) (gr.m X G) (gs.m X G) F1 b1 m1 r y z F2 x m2 q f g p c d;have Gm:=Gx F9 u A C jh;have Gp:=Gy D F9 b9 m9 Gm r y z nn;have oK:=FQ (P:=l.prog) (w:=w) (base:=base) j B uC sM uA;have nB:=GF (P:=l.prog) (w:=w) (base:=base) F7 B F3 b3 m3 q f g p c d;have Gg:=GS E D pV kF Gp F7 b7 m7 nB;have pz:=dY Z r_ tF (GM Z B j T U oK);have tK:=dY F rZ um (GW F E tG tZ Gg H qi sH (GU (P:=l.prog) (w:=w) (base:=base) H (nX.n X G)));have Cn:=dY M uP sJ (Ht (P:=l.prog) (w:=w) (base:=base) M B (gt.m X G) (o.m X G) oO);have qY:=dY J uN qG (Hy J B (dY L uG uB (Hv L (gv.m X G) Cn)));have u1:=dY I s_ u5 (HP I B (o.m X G) oO (dY u A C jh) tK qY);have tD:=IJ (P:=l.prog) (w:=w) (base:=base) oN B.isinstance (rO.n X G) (tM.m X G) (uc.m X G) (sQ.m X G) (rd.m X G) (tO.m X G) (qm.m X G) (t0.m X G) (tY.m X G) (pN.m X G) (uY.m X G) (o.m X G);have Ct:=dY i Q S (u4 (P:=l.prog) (w:=w) (base:=base) i);have Cw:=dY pG uH uL (IG pG B (dY oX qQ tU (IA (P:=l.prog) (w:=w) (base:=base) oX B)) (dY j T U oK) pz);have Ca:=dY oM qM rB (IK oM (q9.m X G) u1 oN sw sG tD pP uu);exact I0 FL B (nX.n X G) (dY N rM sU (FI N B)) (dY O qF uk (FK O)) Ct (dY Y p7 uz (F4 Y B i Q S ql q_ sL rz ud qX)) pz (dY nW qV qE (IM nW B Ct)) Cw Ca
def walk{l:PySem.W.OpenLaw}{q:Program}{i:List Str}{r:(Str->Option Value)->Heap->Prop}{c:World->Heap->Prop}{d:DefRec}{K:Params->Ae}(j:l.most=some 63)(o:d.params.defaults=[])(p:∀(w:World)(h:Heap),c w h->(K w.params).In h)(F:∀(w:World)(mg:Str->Option Value)(fa:Addr)(h:Heap),(K w.params).In h->h.Ns mainGlobals mg->mg d.name=some (.ref fa)->
   ∃fd:FuncData,(∀(s:Shared)(u:Value),BindsTo s fd ⟨[u],[]⟩ [("script",u)])/\∀base:Heap,(K w.params).In base->base.Ns mainGlobals mg->FnOk l.prog w (K w.params) mg base aT 13 fa fd ["script"] (oS (K w.params))):
  PySem.W.WalkO q i r c l.row.toRowW d [] (fun f vs=>PySem.call f vs):=
 L2.xn (n:=63) (k:=13) (x:="script") (CX:=fun _=>aT) (sp:=fun w=>oS (K w.params)) j ξ o ⟨rfl,ξ,ξ⟩ p F (fun _ _ a ns e _ g=>⟨a,ns,rfl,g,e,fun _=>rfl⟩) fun _ _ _ _ _ z=>z
end K8
open PySem PySem.W PyProof.Rows
structure PySem.W.Fast:Prop where
 (tw10090087642531713279 tw1016560480983028542 tw10174926882807334284 tw10191880955296407502 tw10225228960932177832 tw10255754951124506561 tw10286464487606616986 tw10453653744421257969 tw10460964737803459340 tw1047050306465276703 tw10484757130218665888 tw1049443212616593299 tw10708404714669137445 tw10717637297352837907 tw10785007041792863858 tw10792257479667441859 tw10802100539266221584 tw10829792868555497797 tw10842174387074743705 tw10858822599616148577 tw10896988202744421623 tw10919237461480146801 tw10965480070887483744 tw11026336185353820693 tw11084160757600126949 tw11087794982207053402 tw11123064316485614330 tw1116816420985415659 tw11481662817204643998 tw1150502977794560123 tw11618439515048404763 tw11674189101421025570 tw11731200745504611110 tw11881053661818281688 tw12031391971407564550 tw12114609599616995197 tw12136280339900658004 tw12185545782220443155 tw12207181606360846825 tw12237834052815236095 tw1225232097780941713 tw12309435047695365258 tw12335125762431512594 tw12342621795149962149 tw12405222530687534873 tw12406817762596757389 tw12458842430186040659 tw12551654505234512556 tw12590367468144596454 tw12686218863690946490 tw12816198229619892747 tw12842937797847579126 tw1298471600904762371 tw12986543116376583903 tw12991161150665066868 tw13004074013704667239 tw1305465021399902094 tw13070399946445584366 tw13077540537430999423 tw13197858961883377980 tw13215377150967913729 tw13262836598808535687 tw13289593664489265398 tw13292296437536481162 tw13297742857153778191 tw13357299880955396219 tw1356140740956695472 tw13589115137204362244 tw13621562159328294308 tw13694182204792911245 tw13775141285040131640 tw13825838007239055690 tw13881145630432237825 tw13936720130312915948 tw13972000901512750073 tw14051813856232844782 tw14110956957159404764 tw14146580438191898925 tw14161003794013691425 tw14163331505635436524 tw14204023532716207496 tw1421170252563300115 tw14265707750619277485 tw14287201886917424919 tw14334451862759700534 tw14345473348191224723 tw14373773390408283571 tw1438859541038446252 tw14419046610460297844 tw14510886142731525777 tw14611705048258346739 tw1464124610207312395 tw1466463518213208533 tw14708330145138833076 tw14717778983995521539 tw14838843314817224241 tw14883428825178678669 tw14944675938007016851 tw14975219084497298301 tw14995595086354723246 tw15019702641074420767 tw15092504001521636345 tw15099381600715877789 tw15186468340881025222 tw15205969539327670455 tw15241476132389695353 tw1528998362620512386 tw15298476171162577381 tw15325662787982429762 tw15349961222826991162 tw1538707974771320485 tw15512624782229697756 tw15527389097760682976 tw15541144391262118699 tw15611483541101608430 tw1569862588488330853 tw15707155993786450685 tw1570746981651268094 tw15730293943655389230 tw15746064817124517242 tw15821142549278528179 tw15928963826431305377 tw15951638301480365601 tw15967751668799529427 tw15993551916322333277 tw1603847818772826563 tw16090884165330567219 tw16103659838858736545 tw16126608741388917451 tw16157095850734900843 tw16240228973434377511 tw1624492549784274997 tw1634868698840219204 tw16403505697771477552 tw1647035313521078397 tw16482834544716887695 tw16553443419744178222 tw16639543580656008000 tw16693115159843814222 tw1671259831963980543 tw16725349614801530280 tw16752500416016708923 tw16753893194536261227 tw16819532670804365098 tw16875907282554565321 tw16885605226877582857 tw16915256504986945523 tw16936940080434826582 tw16965426792926083280 tw17017066180283522910 tw17074958612109938766 tw17109452823815025517 tw1711615693250039845 tw17153570587975612109 tw1722499436728099734 tw17244482858260816441 tw17256312833459714051 tw17261404906418367297 tw17327856455208274605 tw17372009256867390837 tw17496352891946299327 tw17498600524691198974 tw17511875003422362930 tw17565119211737627683 tw17565683818083712831 tw17577406619020823963 tw17581540330318571684 tw17598481194574914592 tw17621989241272025125 tw17721777451003282376 tw17742911009546573634 tw17745263571004269406 tw17752025793218942387 tw17807036446105872498 tw17828609506339640530 tw18000974102114977681 tw18090675604450833101 tw1809087527262956938 tw18103464225521715509 tw18110523269983725853 tw18119186755996674842 tw18173278792175908728 tw18182760300745877474 tw18204838434436841185 tw18226678366630402276 tw18298743214575690026 tw1834173288255706106 tw1886271413362812119 tw1967470831008947766 tw2035012130905840485 tw2037440634294490494 tw2045480238525007053 tw214812325738508047 tw218353876335102757 tw2351330881019346699 tw2360330861977276511 tw2389494245143070283 tw2405464672979135529 tw2409672111971623051 tw2504191253918331999 tw2507767884669699838 tw261911473399879711 tw2631620086204502884 tw2641514098000753692 tw2667080144252058656 tw2671664938915630653 tw2674222261198414000 tw2872463619746351104 tw2898184510607559742 tw2919610081975387481 tw2965037693679771218 tw3042166889227228480 tw3066878688369707891 tw30922742675859881 tw3238323026689881364 tw3339150872727447618 tw3345790906428539461 tw3367565278242575301 tw3382135885017552736 tw339008726670146423 tw3462169456989053729 tw3465932856234857760 tw3512650772721799946 tw3555899600443430986 tw3623257824106084287 tw3657595393767009197 tw3665849689360326359 tw3678140060489816153 tw3686016975877464213 tw3793502005643616885 tw3818589749766110451 tw3888338243156005036 tw3912066303112155986 tw3933080773003023812 tw4101547085261958846 tw4233395192786800449 tw4374817630358043602 tw4394680837604605396 tw4451917941156818322 tw4501826752332070235 tw4550057029374689462 tw455220862516295276 tw4611075772501694193 tw4673572538695932136 tw4741404341359297985 tw4772259149705192623 tw4797747283082080358 tw4878161890665182938 tw4951371662009931219 tw4971631464934746344 tw5048494413282692246 tw5075105036632367019 tw5192602897721755202 tw5198278849883324491 tw5222875384128291323 tw5230672883970275285 tw5358843797086046967 tw5407692366956310544 tw5447585928854658876 tw5597589327754285588 tw5604014088472777152 tw5773173235364247227 tw581605876720125690 tw5831308715620512105 tw5834521681440251365 tw5870200807815783434 tw5884221258274191072 tw6082000550372352660 tw6187302836038007744 tw6260116878262193448 tw6277378011662972659 tw6277948338352024933 tw6348530632585604405 tw6414476480763828711 tw6519701874491273265 tw6544376666313934353 tw6550184792561894043 tw6702101184758870360 tw670688154636917694 tw6711585446012414373 tw6730276854795070891 tw6795564639849747976 tw6809163973735916631 tw6846978915726889187 tw6849958042014875643 tw6881759026706827120 tw7076157470627789712 tw7076911035885719829 tw7103072523984588786 tw714668349309707074 tw7186592035274536448 tw7198605951606318918 tw7236352300152253506 tw728488425568640587 tw7470159848132668927 tw7518346034065817052 tw7522773867295540729 tw7523902783938617463 tw7609209312113247065 tw7705101598859098654 tw7729263964167044608 tw8021809524127148318 tw8050195860395472483 tw8091459311182900619 tw8170850249677230245 tw8223460388238120130 tw8263208887775229844 tw8270505131686819733 tw831471461104449629 tw8338180500535206413 tw8338844547734161509 tw8339695732788329702 tw835379344514391722 tw8361374319314325212 tw841007965735968664 tw8468815100161800082 tw848049879770608750 tw8492434727725296581 tw8536650903028876278 tw8558260392148331571 tw8564642384255951333 tw8602274400537707167 tw8643851899283187072 tw8660727710398867639 tw8716467534682675727 tw8749238033246990560 tw8832249247000643314 tw8891354942716239034 tw889783074215420798 tw8952543806973178816 tw8998484279855054005 tw9006289678477172733 tw9008280580483404599 tw9105990514086750438 tw9197624002436183112 tw9221684081511452800 tw925239784985302030 tw9277348025624101796 tw9345584887226056618 tw9349665238274662143 tw9363516268319138466 tw9430245840350271394 tw9467589509983897915 tw9509641912844999427 tw9520987522678056074 tw955556523306290096 tw9575781348807547386 tw9578471617590195460 tw9608217516249667342 tw9651568423319870047 tw966596928195331589 tw9685816687385514251 tw9693897053521150538 tw9764472243130405342 tw9966166067653639551 tw9987761293304301766:True)
set_option maxRecDepth 100000 in
set_option maxHeartbeats 0 in
theorem PySem.Challenge.cw_seamwright_k08_texts_refused_holds : PySem.Challenge.rw_seamwright_k08_texts_refused.Holds := by
 w_on; o_law; k_head; (case hw=>w_witness2)
 k_fill
 refine K8.walk (l:=PySem.Challenge.rw_seamwright_k08_texts_refused) rfl rfl (fun w h Y=>PySem.W.kIn_of Y) ?F
 case F=>
  intro w mg fa h KX G gl;refine' K8.I_ KX G gl ?_ ?_ ?_ ?_ ?_ ?_ ?_ ?_ ?_ ?_ ?_ ?_ ?_ ?_ ?_ ?_ ?_ ?_ ?_ ?_ ?_ ?_ ?_ ?_ ?_ ?_ ?_ ?_ ?_ ?_ ?_ ?_ ?_ ?_ ?_ ?_ ?_ ?_ ?_ ?_ ?_ ?_ ?_ ?_ ?_ ?_ ?_ ?_ ?_ ?_ ?_ ?_ ?_ ?_ ?_ ?_ ?_ ?_ ?_ ?_ ?_ ?_ ?_ ?_ ?_ ?_ ?_ ?_
  all_goals try first | refine' L2.v1 ?_ ?_ ?_ ?_ | refine' L2.Nn.mk ?_ | refine' K8.IH ?_ ?_ ?_ ?_ ?_ ?_ ?_ ?_ ?_ ?_ ?_ ?_ ?_ ?_ ?_ ?_ ?_ ?_ ?_ ?_ | refine' L2.Hf ?_ ?_ ?_
  all_goals try first | k_is | kit_is | k_exc
#print axioms PySem.Challenge.cw_seamwright_k08_texts_refused_holds
end
