import PyProof.Rows.All
import Wide.All
import OpenK.AllK
import Wide.FinOn
import Lean
import PyProof.EqAt
import PyProof.EqKinds
import PyProof.TupleCall
import PyProof.Rows.SortRuns
import KE.KSortKey
import KE.KListMore
import KE.KIntText
import KE.KEqDat
import PyProof.Rows.CallKwBuiltin
import PySem.SetTable
import PyProof.Rows.SetFrom
import PyProof.TupleKey
import PyProof.IsRules
import KE.KRevIter
import PyProof.ListRange
import PyProof.TupleOfGen
import PyProof.CollectIter
import PySem.Challenge.RW_seamwright_k50_whole_pushed_webs_keep_th
import KE.KDictLaws
import PyProof.DictWalks
import PyProof.DictItems
import PyProof.MinMaxWalk
import PyProof.SumAny
import PyProof.NeKinds
import PyProof.StationsW
import PyProof.ExcClass3
import OpenK.KOwn
import PyProof.ExcArgsOwn
import PyProof.SetNew
import PyProof.DictCopy
import PyProof.FactsAll.dict_1
import PyProof.FactsAll.set_2
import PyProof.FactsAll.subtypes_5
import PyProof.AttrMissHeap
import PyProof.DictFindH
import PyProof.DictTruth
import KE.KLam
import KE.KMinKey
open List renaming length_map->Aa,getElem?_eq_getElem->Ae,map_append->Ah,length_append->Ai,size_toArray->Aj,getElem?_map->Ak,mem_of_getElem?->Al,length_cons->An,map_map->Ap,mem_cons_of_mem->Aq,mem_cons_self->As,map_cons->Av,take_of_length_le->Ax,length_take->Ay,range->AB,eq_nil_of_length_eq_zero->AH,map_congr_left->AJ,filter_append->AK,append_nil->AN,mem_append_right->AQ,filter_cons_of_neg->AT,nodup_append->AU,pairwise_map->A2,mem_singleton->A3,nodup_nil->A7,lookup_cons->A8,getElem_mem->A9,flatMap_cons->Bc
open PySem renaming wpAny_bind->Ab,wpAny_pure->Ac,tupleKeyHash->Aw,wpAny_holding->AM,IsTupleKey->AS,sliceBounds->AW,wpAny_seqItems->A0,codeAny_builtin->A4,bootBuiltins->A5,wpAny_newObj_type->Bb,tupleKind->Bd,sysModules->Be
open PySem.Heap renaming get?_push_of_some->Ad,get?_push_size->Ao,lt_size->Ar,SameBut->A6
open PySem.W renaming Frag->Af
open Nat renaming le_refl->Ag,ne_of_lt->Az,lt_of_lt_of_le->AC,le_trans->AD,zero_le->AL,lt_succ_of_lt->AY
open Option.some renaming inj->Am
open Bool renaming false_ne_true->At,false_eq_true->Au,and_eq_true->AI
open PySem.Obj renaming mapSeq->AA
open Int renaming dvd_zero->AE
open PyProof.Rows renaming take_snoc->AF
open PySem.PassesOwn renaming never->AG
open PySem.Heap.SameBut renaming update->AO
open Array renaming getElem?_toList->AR,length_toList->A1
open PySem.PyData renaming int->AV
open PySem.Around renaming under_plainId->AX
open PySem.Paired renaming length->AZ
open PySem.NameKind renaming free->Ba
set_option linter.all false
set_option Elab.async false
set_option maxRecDepth 100000
set_option maxHeartbeats 4000000
def δ{p:Prop}(h:p:=by decide +kernel):p:=h
def ω{p:Prop}(h:p:=by omega):p:=h
def ξ{p:Prop}(h:p:=by decide):p:=h
abbrev Ω:=PySem.Value->PySem.Shared->Prop
abbrev Ξ:=List (List Int)
abbrev Ψ:=List (PySem.Addr×PySem.Obj)
local macro_rules|`($s⁻¹)=>`(($s).heap.objs.size)
section
namespace L2
open PySem PySem.Spec PyProof.Rows
abbrev Key:=Sum Int Str
def kG:Key->Value->Bool
 |.inl k,v=>Value.isInt k v
 |.inr x,v=>Value.isStrOf x v
def tw(w:World):Key->Int
 |.inl k=>hashInt k
 |.inr x=>hashStr w x
def az:∀{k:Key}{v:Value},kG k v=true->(∃i t,k=Sum.inl i/\v=Value.int i t)\/(∃x t,k=Sum.inr x/\v=Value.str x t)
 |.inl i,v,h=>by
  obtain⟨t,e⟩:=Value.isInt_shape (k:=i) (v:=v) h;exact .inl ⟨i,t,rfl,e⟩
 |.inr x,v,h=>by
  obtain⟨t,e⟩:=Value.isStrOf_shape (x:=x) (v:=v) h;exact .inr ⟨x,t,rfl,e⟩
def FH(i:Int)(t:Tok):kG (.inl i) (.int i t)=true:=by simp[kG,Value.isInt]
def FI(x:Str)(t:Tok):kG (.inr x) (.str x t)=true:=by simp[kG,Value.isStrOf]
def FJ(a b:Int):decide ((Sum.inl a:Key)=Sum.inl b)=(a==b):=by
 by_cases e:a=b
 ·subst e;simp
 ·have h:¬(Sum.inl a:Key)=Sum.inl b:=fun q=>e (Sum.inl.inj q)
  rw[decide_eq_false h];exact(beq_eq_false_iff_ne.mpr e).symm
def FK(a b:Str):decide ((Sum.inr a:Key)=Sum.inr b)=decide (a=b):=by
 by_cases e:a=b
 ·subst e;simp
 ·have h:¬(Sum.inr a:Key)=Sum.inr b:=fun q=>e (Sum.inr.inj q)
  rw[decide_eq_false h,decide_eq_false e]
def FM(a:Int)(b:Str):decide ((Sum.inl a:Key)=Sum.inr b)=false:=decide_eq_false (fun q=>nomatch q)
def FN(a:Str)(b:Int):decide ((Sum.inr a:Key)=Sum.inl b)=false:=decide_eq_false (fun q=>nomatch q)
def zo(prog:Program)(w:World):PySem.KeyKind prog w Key where
 is:=kG
 hash:=tw w
 inj:=fun v a b d hb=>by
  rcases az d with ⟨i,t,rfl,rfl⟩|⟨x,t,rfl,rfl⟩
  ·rcases az hb with ⟨j,u,rfl,e⟩|⟨y,u,rfl,e⟩
   ·injection e with e1 _;rw[e1]
   ·exact nomatch e
  ·rcases az hb with ⟨j,u,rfl,e⟩|⟨y,u,rfl,e⟩
   ·exact nomatch e
   ·injection e with e1 _;rw[e1]
 byValue:=fun k v h=>by
  rcases az h with ⟨i,t,rfl,rfl⟩|⟨x,t,rfl,rfl⟩<;>rfl
 pyHash:=fun c h=>by
  rcases az c with ⟨i,t,rfl,rfl⟩|⟨x,t,rfl,rfl⟩
  ·exact wpAny_pyHash_int h
  ·exact wpAny_pyHash_str h
 eqBool:=fun hu c h=>by
  rcases az hu with ⟨i,t,rfl,rfl⟩|⟨x,t,rfl,rfl⟩
  ·rcases az c with ⟨j,u,rfl,rfl⟩|⟨y,u,rfl,rfl⟩
   ·rw[FJ] at h;exact wpAny_eqBool_int h
   ·rw[FM] at h;exact SeqAt.EqAt.int_str i t y u _ _ _ _ h
  ·rcases az c with ⟨j,u,rfl,rfl⟩|⟨y,u,rfl,rfl⟩
   ·rw[FN] at h;exact SeqAt.EqAt.str_int x t j u _ _ _ _ h
   ·rw[FK] at h;exact wpAny_eqBool_str h
 «strs»:=fun k x t v h=>by
  rcases az h with ⟨i,u,rfl,e⟩|⟨y,u,rfl,e⟩
  ·exact nomatch e
  ·injection e with e1 _
   subst e1;cases v<;>rfl
def tE(prog:Program)(w:World)(i:Int)(t:Tok):(zo prog w).is (.inl i) (.int i t)=true:=FH i t
def FO(prog:Program)(w:World)(x:Str)(t:Tok):(zo prog w).is (.inr x) (.str x t)=true:=FI x t
inductive V where
 |non|bl (b:Bool)|int (i:Int)|str (x:Str)|byt (b:Array UInt8)|flt (b:UInt64)|ref (a:Addr)|ty (n:String)
 deriving DecidableEq
def RelV:V->Value->Prop
 |.non,u=>u=Value.none
 |.bl b,u=>u=Value.bool b
 |.int i,u=>∃t,u=Value.int i t
 |.str x,u=>∃t,u=Value.str x t
 |.byt b,u=>∃t,u=Value.bytes b t
 |.flt b,u=>∃t,u=Value.float b t
 |.ref a,u=>u=Value.ref a
 |.ty n,u=>u=Value.type n
abbrev Vals:List V->List Value->Prop:=Paired RelV
def Vals.length{xs:List V}{us:List Value}(r:Vals xs us):xs.length=us.length:=AZ r
def Vals.get:∀{xs:List V}{us:List Value}{i:Nat}{x:V},Vals xs us->xs[i]?=some x->∃u,us[i]?=some u/\RelV x u
 |_,_,_,_,.nil,e=>by simp at e
 |_,_,0,_,.cons r _,e=>by simp at e;subst e;exact⟨_,rfl,r⟩
 |_,_,i+1,x,.cons _ t,e=>by
  obtain⟨u,h1,h2⟩:=Vals.get (i:=i) (x:=x) t (by simpa using e);exact⟨u,by simpa using h1,h2⟩
def Vals.set{x:V}{u:Value}(r:RelV x u):∀{xs:List V}{us:List Value}(i:Nat),Vals xs us->Vals (xs.set i x) (us.set i u)
 |_,_,_,.nil=>.nil
 |_,_,0,.cons _ t=>.cons r t
 |_,_,i+1,.cons q t=>.cons q (Vals.set r i t)
def Vals.append{xs ys:List V}{us a:List Value}(h:Vals xs us)(g:Vals ys a):Vals (xs++ys) (us++a):=by
 induction h with
 |nil=>exact g
 |cons r _ ih=>exact .cons r ih
def Vals.take:∀{xs:List V}{us:List Value}(n:Nat),Vals xs us->Vals (xs.take n) (us.take n)
 |_,_,0,_=>.nil
 |_,_,_+1,.nil=>.nil
 |_,_,n+1,.cons r t=>.cons r (Vals.take n t)
def Vals.drop:∀{xs:List V}{us:List Value}(n:Nat),Vals xs us->Vals (xs.drop n) (us.drop n)
 |_,_,0,r=>r
 |_,_,_+1,.nil=>.nil
 |_,_,n+1,.cons _ t=>Vals.drop n t
def Vals.none_of:∀{xs:List V}{us:List Value}{i:Nat},Vals xs us->xs[i]?=none->us[i]?=none:=fun{xs us i} r e=>by
 have h1:=r.length;have h2:xs.length<=i:=List.getElem?_eq_none_iff.mp e;exact List.getElem?_eq_none_iff.mpr ω
def RelO:Option V->Option Value->Prop
 |some v,some u=>RelV v u
 |none,none=>True
 |_,_=>False
def KV{κ:Type}:List (κ×V)->List (κ×Value)->Prop:=Paired fun(p:κ×V)(q:κ×Value)=>p.1=q.1/\RelV p.2 q.2
def kV:Key->V
 |.inl i=>.int i
 |.inr x=>.str x
inductive HO where
 |lst (xs:List V)
 |tup (xs:List V)
 |dK (kvs:List (Key×V))|dT (kvs:List (List Key×V))
 |set (S:Int->Bool) (n:Nat)
 |ins (C dx:Addr) (fs:List (Str×V))
 |own (x:Addr)
 |xd (fs:List (Str×V))
 |met (f x:Addr)
 |rng (lo hi:Int)
 |frz (o:Obj) (u:HO)
 |tbl (ps:Array Value)
 |ext (φ:Heap->Prop)
abbrev Hp:=Addr->Option HO
def upd(H:Hp)(a:Addr)(o:HO):Hp:=fun b=>if b=a then some o else H b
def za{H:Hp}{a:Addr}{o:HO}:upd H a o a=some o:=by unfold upd;rw[if_pos rfl]
def ab{H:Hp}{a b:Addr}{o:HO}(h:b≠a):upd H a o b=H b:=by unfold upd;rw[if_neg h]
def FQ{H:Hp}{a:Addr}{o u:HO}:upd (upd H a o) a u=upd H a u:=by
 funext b;unfold upd;split<;>rfl
def aF{H:Hp}{a b:Addr}{o u:HO}(h:H a=some o)(h':H b=some u)(d:o≠u):a≠b:=by
 intro e;subst e;rw[h] at h';exact d (Am h')
def ze{H:Hp}{a b:Addr}{o:HO}(h:H a=some o)(h':H b=none):a≠b:=by
 intro e;subst e;rw[h] at h';cases h'
section
variable(P:Program)(w:World)
def zJ(H:Hp)(h:Heap)(a:Addr):HO->Prop
 |.lst xs=>xs.length<=sizeLine/\∃(b:List Value)(n:Nat),Vals xs b/\h.get? a=some {cls:=.type "list",data:=.seq b.toArray n}
 |.tup xs=>xs.length<=sizeLine/\∃b:List Value,Vals xs b/\IsTup h a b.toArray
 |.dK kvs=>kvs.length<=sizeLine/\(a==Be)=false/\∃vs,KV kvs vs/\h.DictOf (zo P w) a vs
 |.dT kvs=>kvs.length<=sizeLine/\(a==Be)=false/\∃xs:List (List Key×Addr×Value),
   Paired (fun(p:List Key×V)(q:List Key×Addr×Value)=>p.1=q.1/\H q.2.1=some (.tup (p.1.map kV))/\RelV p.2 q.2.2) kvs xs/\
   ∃o es ep,h.get? a=some o/\o.ExactDict/\o.data=.dict es ep/\es.toList=xs.map (entryOfKey (Bd (zo P w)))/\(xs.map (·.1)).Nodup
 |.set S n=>h.SetOf (intKind P w) a S n
 |.ins C dx fs=>H dx=some (.own a)/\fs.length<=1000/\dx≠a/\h.get? a=some (PySem.W.instObj C dx)/\
   ∃mA,h.Ns1 dx mA/\(∀f,RelO (fs.lookup f) (mA f))/\PySem.Within mA (fs.map (·.1))
 |.own _=>∃o,h.get? a=some o
 |.xd fs=>∃mA,h.Ns1 a mA/\∀f,RelO (fs.lookup f) (mA f)
 |.rng lo hi=>∃t u v,h.get? a=some {cls:=.type "range",data:=.fields #[.int lo t,.int hi u,.int 1 v]}
 |.frz o u=>h.get? a=some o/\zJ H h a u
 |.tbl ps=>h.get? a=some {cls:=.none,data:=.fields ps}
 |.met f x=>h.get? a=some (PySem.W.methodObj (.ref f) (.ref x))
 |.ext φ=>φ h/\(∃o,h.get? a=some o)/\∀h1 h2:Heap,φ h1->(∀o,h1.get? a=some o->h2.get? a=some o)->φ h2
def HOk(H:Hp)(h:Heap):Prop:=∀a o,H a=some o->zJ P w H h a o
end
section
variable{P:Program}{w:World}{H H':Hp}{h h':Heap}{a:Addr}{o:HO}
def zJ.lt(x:zJ P w H h a o):a<h.objs.size:=by
 cases o with
 |lst xs=>obtain⟨_,_,_,_,e⟩:=x;exact Ar e
 |tup xs=>obtain⟨_,_,_,p⟩:=x;exact p.lt
 |dK kvs=>obtain⟨_,_,_,_,o,_,_,e,_⟩:=x;exact Ar e
 |dT kvs=>obtain⟨_,_,_,_,o,_,_,e,_⟩:=x;exact Ar e
 |set S n=>obtain⟨o,_,_,_,e,_⟩:=x;exact Ar e
 |ins C dx fs=>obtain⟨_,_,_,e,_⟩:=x;exact Ar e
 |own y=>obtain⟨_,e⟩:=x;exact Ar e
 |xd fs=>obtain⟨_,⟨_,_,_,e,_⟩,_⟩:=x;exact Ar e
 |rng lo hi=>obtain⟨_,_,_,e⟩:=x;exact Ar e
 |frz ob u=>obtain⟨e,_⟩:=x;exact Ar e
 |tbl ps=>exact Ar (show h.get? a=some _ from x)
 |met f y=>exact Ar (show h.get? a=some _ from x)
 |ext φ=>obtain⟨_,⟨_,e⟩,_⟩:=x;exact Ar e
def Paired.mapP{c d:Type}{F G:c->d->Prop}{l₁:List c}{l₂:List d}(h:Paired F l₁ l₂)(f:∀a b,F a b->G a b):Paired G l₁ l₂:=by
 induction h with
 |nil=>exact .nil
 |cons r _ ih=>exact .cons (f _ _ r) ih
def zJ.stay(x:zJ P w H h a o)(k:∀b u,(b=a\/H b=some (.own a))->h.get? b=some u->h'.get? b=some u)(j:∀b,H b=some (.own a)->H' b=some (.own a))(l:∀b xs,H b=some (.tup xs)->H' b=some (.tup xs)):zJ P w H' h' a o:=by
 induction o with
 |lst xs=>obtain⟨z,g,n,r,e⟩:=x;exact⟨z,g,n,r,k _ _ (.inl rfl) e⟩
 |tup xs=>obtain⟨z,g,r,ob,e,c⟩:=x;exact⟨z,g,r,ob,k _ _ (.inl rfl) e,c⟩
 |dK kvs=>obtain⟨z,y,vs,r,ob,es,ep,e,c⟩:=x;exact⟨z,y,vs,r,ob,es,ep,k _ _ (.inl rfl) e,c⟩
 |dT kvs=>
  obtain⟨z,y,xs,r,ob,es,ep,e,c⟩:=x;exact⟨z,y,xs,Paired.mapP r fun p q z=>⟨z.1,l _ _ z.2.1,z.2.2⟩,ob,es,ep,k _ _ (.inl rfl) e,c⟩
 |set S n=>obtain⟨ob,es,ep,t,e,c⟩:=x;exact⟨ob,es,ep,t,k _ _ (.inl rfl) e,c⟩
 |ins C dx fs=>
  obtain⟨d,z,ne,e,mA,⟨i,es,ep,e2,c⟩,r⟩:=x;exact⟨j _ d,z,ne,k _ _ (.inl rfl) e,mA,⟨i,es,ep,k _ _ (.inr d) e2,c⟩,r⟩
 |own y=>obtain⟨ob,e⟩:=x;exact⟨ob,k _ _ (.inl rfl) e⟩
 |xd fs=>obtain⟨mA,⟨i,es,ep,e,c⟩,r⟩:=x;exact⟨mA,⟨i,es,ep,k _ _ (.inl rfl) e,c⟩,r⟩
 |rng lo hi=>obtain⟨t,u,v,e⟩:=x;exact⟨t,u,v,k _ _ (.inl rfl) e⟩
 |frz ob u ih=>obtain⟨e,q⟩:=x;exact⟨k _ _ (.inl rfl) e,ih q⟩
 |tbl ps=>
  have e:h.get? a=some {cls:=.none,data:=.fields ps}:=x;show h'.get? a=some {cls:=.none,data:=.fields ps};exact k a _ (.inl rfl) e
 |met f y=>
  have e:h.get? a=some (PySem.W.methodObj (.ref f) (.ref y)):=x;show h'.get? a=some (PySem.W.methodObj (.ref f) (.ref y));exact k a _ (.inl rfl) e
 |ext φ=>obtain⟨p,⟨o,e⟩,st⟩:=x;exact⟨st _ _ p fun o q=>k _ _ (.inl rfl) q,⟨o,k _ _ (.inl rfl) e⟩,st⟩
def HOk.lt(x:HOk P w H h)(e:H a=some o):a<h.objs.size:=(x a o e).lt
def HOk.fresh(x:HOk P w H h)(e:h.objs.size<=a):H a=none:=by
 cases q:H a with
 |none=>rfl
 |some u=>exact absurd (AC (x.lt q) e) (Nat.lt_irrefl _)
def HOk.kept(x:HOk P w H h)(k:∀b u,h.get? b=some u->h'.get? b=some u):HOk P w H h':=fun a o e=>
 (x a o e).stay (fun b u _ q=>k b u q) (fun _ q=>q) fun _ _ q=>q
def HOk.laid(x:HOk P w H h)(k:∀b u,h.get? b=some u->h'.get? b=some u)(hp:h.objs.size<=a)(new:zJ P w (upd H a o) h' a o):HOk P w (upd H a o) h':=fun b u e=>by
 have hn:=x.fresh hp
 by_cases hb:b=a
 ·subst hb;rw[za] at e;cases e;exact new
 ·rw[ab hb] at e
  exact(x b u e).stay (fun c v _ q=>k c v q) (fun c q=>by rw[ab (ze q hn)];exact q) fun c xs q=>by rw[ab (ze q hn)];exact q
end
def Rd(H:Hp)(a:Addr)(u:HO):Prop:=H a=some u\/∃o,H a=some (.frz o u)
def Rd.of{H:Hp}{a:Addr}{u:HO}(h:H a=some u):Rd H a u:=.inl h
def Rd.ok{P:Program}{w:World}{H:Hp}{h:Heap}{a:Addr}{u:HO}(r:Rd H a u)(x:HOk P w H h):zJ P w H h a u:=by
 rcases r with r|⟨o,r⟩
 ·exact x a u r
 ·obtain⟨_,q⟩:=x a _ r
  exact q
def lR:Option HO->Prop
 |some (.lst _)=>True
 |some (.dK _)=>True
 |some (.dT _)=>True
 |some (.set _ _)=>True
 |some (.ins _ _ _)=>True
 |some (.ext _)=>True
 |_=>False
section
variable{P:Program}{w:World}{H:Hp}{h h':Heap}{x e:Addr}{o':HO}
def HOk.write(ok:HOk P w H h)(g:lR (H x))(he:e=x\/H e=some (.own x))(k:∀b u,b≠e->h.get? b=some u->h'.get? b=some u)(l:∃u,h'.get? e=some u)(new:zJ P w (upd H x o') h' x o'):HOk P w (upd H x o') h':=fun b u q=>by
 have d:∀c y,H c=some (.own y)->c≠x:=fun c y r z=>by subst z;rw[r] at g;exact g
 have f:∀c xs,H c=some (.tup xs)->c≠x:=fun c xs r z=>by subst z;rw[r] at g;exact g
 by_cases hb:b=x
 ·subst hb;rw[za] at q;cases q;exact new
 ·rw[ab hb] at q
  by_cases a:b=e
  ·have i:H b=some (.own x):=by
    rcases he with z|z
    ·exact absurd (a.trans z) hb
    ·rw[a];exact z
   rw[q] at i;cases i;obtain⟨v,j⟩:=l;exact⟨v,by rw[a];exact j⟩
  ·refine(ok b u q).stay (fun c v hc r=>k c v ?_ r) (fun c r=>by rw[ab (d c b r)];exact r) fun c xs r=>by rw[ab (f c xs r)];exact r
   rcases hc with rfl|hc
   ·exact a
   ·rintro rfl
    rcases he with z|z
    ·exact d c b hc z
    ·rw[hc] at z;cases z;exact hb rfl
end
structure Un(fs ex:List Addr)(H H':Hp)(h h':Heap):Prop where
 keep:∀b o,h.get? b=some o->H b=none->b∉fs->b∉ex->h'.get? b=some o
 slot:∀b o,h.get? b=some o->H b=none->b∈fs->b∉ex->∃sl,h'.get? b=some {o with slots:=sl}
 free:∀b o,h.get? b=some o->H b=none->b∉ex->H' b=none
 there:∀b o,h.get? b=some o->b∉ex->∃o',h'.get? b=some o'
 tups:∀b xs,H b=some (.tup xs)->H' b=some (.tup xs)
 frzs:∀b o u,H b=some (.frz o u)->H' b=some (.frz o u)
 tbls:∀b ps,H b=some (.tbl ps)->∃more,H' b=some (.tbl (ps++more))
section
variable{fs nz ex wG:List Addr}{H H1 H2:Hp}{h h1 h2 h':Heap}{a x e:Addr}{o:HO}
def Un.any(u:Un fs ex H H1 h h1){b:Addr}{ob:Obj}(q:h.get? b=some ob)(n:H b=none)(hx:b∉ex):∃a,h1.get? b=some {ob with slots:=a}:=by
 by_cases hb:b∈fs
 ·exact u.slot b ob q n hb hx
 ·exact⟨ob.slots,u.keep b ob q n hb hx⟩
def Un.kept(k:∀b u,h.get? b=some u->h'.get? b=some u):Un fs ex H H h h':=
 ⟨fun b ob q _ _ _=>k b ob q,fun b ob q _ _ _=>⟨ob.slots,k b ob q⟩,fun _ _ _ n _=>n,fun b ob q _=>⟨ob,k b ob q⟩,fun _ _ q=>q,fun _ _ _ q=>q,fun _ ps q=>⟨#[],by rw[q];simp⟩⟩
def Un.refl:Un fs ex H H h h:=Un.kept fun _ _ q=>q
def Un.laid(k:∀b u,h.get? b=some u->h'.get? b=some u)(hp:h.objs.size<=a)(hn:H a=none):Un fs ex H (upd H a o) h h' where
 keep:=fun b u q _ _ _=>k b u q
 slot:=fun b u q _ _ _=>⟨u.slots,k b u q⟩
 free:=fun b u q n _=>by rw[ab (Az (AC (Ar q) hp))];exact n
 there:=fun b u q _=>⟨u,k b u q⟩
 tups:=fun b xs q=>by rw[ab (ze q hn)];exact q
 frzs:=fun b u xs q=>by rw[ab (ze q hn)];exact q
 tbls:=fun b ps q=>⟨#[],by rw[ab (ze q hn),q];simp⟩
def Un.write(c:lR (H x))(he:e=x\/H e=some (.own x))(k:∀b u,b≠e->h.get? b=some u->h'.get? b=some u)(d:∃u,h'.get? e=some u):Un fs ex H (upd H x o) h h':=by
 have hx:∀b,H b=none->b≠x:=fun b n z=>by subst z;rw[n] at c;exact c
 have hb:∀b,H b=none->b≠e:=fun b n z=>by
  subst z;rcases he with r|r
  ·exact hx b n r
  ·rw[n] at r;cases r
 have hm:∀b u,H b=some u->¬lR (some u)->b≠x:=fun b u q nm z=>by subst z;rw[q] at c;exact nm c
 refine⟨fun b u q n _ _=>k b u (hb b n) q,fun b u q n _ _=>⟨u.slots,k b u (hb b n) q⟩,fun b u q n _=>by rw[ab (hx b n)];exact n,fun b u q _=>?_,
  fun b xs q=>by rw[ab (hm b _ q fun z=>z)];exact q,fun b u xs q=>by rw[ab (hm b _ q fun z=>z)];exact q,fun b ps q=>⟨#[],by rw[ab (hm b _ q fun z=>z),q];simp⟩⟩
 by_cases a:b=e
 ·subst a;exact d
 ·exact⟨u,k b u a q⟩
end
def oR(h:Heap)(H:Hp):List Addr:=(AB h.objs.size).filter fun a=>(H a).isSome
def dk(h:Heap)(H:Hp):Heap:=PySem.W.hideAll h (oR h H)
def FS(h:Heap)(H:Hp):(dk h H).objs.size=h.objs.size:=PySem.W.hideAll_size _ _
def FT{h:Heap}{H:Hp}{b:Addr}{o:Obj}(e:h.get? b=some o)(n:H b=none):(dk h H).get? b=some o:=
 PySem.W.hideAll_get _ e fun hm=>by
  have q:(H b).isSome=true:=(List.mem_filter.mp hm).2;rw[n] at q;simp at q
def FU{h:Heap}{H:Hp}{b:Addr}{o:Obj}(e:(dk h H).get? b=some o):h.get? b=some o/\H b=none:=by
 have a:h.get? b=some o:=PySem.W.of_hideAll (oR h H) e;refine⟨a,?_⟩;cases q:H b with
 |none=>rfl
 |some x=>
  have hm:b∈oR h H:=List.mem_filter.mpr ⟨List.mem_range.mpr (Ar a),by simp[q]⟩;have z:(dk h H).get? b=none:=PySem.W.hideAll_none (oR h H) hm;rw[z] at e;cases e
def FV(g h:Heap)(L:Addr):Ψ:=(AB h.objs.size).filterMap fun a=>if a=L\/(g.get? a).isSome=true then none else(h.get? a).map fun o=>(a,o)
def rest(g h:Heap)(L d:Addr):Ψ:=(FV g h L).filter fun p=>decide (p.1≠d)
structure Mod(K:Af)(mg:Str->Option Value)(base:Heap):Prop where
 kin:K.In base
 glob:base.Ns mainGlobals mg
 blt:∃mb,base.Ns builtinsNs mb/\∀x:Str,x≠"__name__"->mb x=A5 x
 nolimit:base.NoLimit
structure Cx where
 prog:Program
 w:World
 K:Af
 mg:Str->Option Value
 base:Heap
 A:Around
 N:List Str
 s₀:Shared
 H₀:Hp
 env:Env
 outer:List Env
 stack:List Env
 ex:List Addr
 fn:Str->Bool
 calm:Bool
 pn:Ψ
 xe:Ω
def frs(l:List Env):List Addr:=l.filterMap (·.frame)
abbrev Cx.fs(X:Cx):List Addr:=frs X.outer
def oT(a:Scope)(x:Str):Prop:=a.names.lookup x=some .local\/a.names.lookup x=some .cell\/a.names.lookup x=some .free
def Loc(a:Scope)(x:Str):Prop:=a.names.lookup x=some .local\/a.names.lookup x=some .cell
def Look(env:Env)(h:Heap)(m:Str->Option Value)(x:Str)(u:Value):Prop:=
 (env.kindOf x=some .local/\m x=some u)\/((env.kindOf x=some .cell\/env.kindOf x=some .free)/\∃c,env.cells.lookup x=some c/\h.IsCell c (some u))
structure Cx.Ok(X:Cx):Prop where
 mod:Mod X.K X.mg X.base
 kind:X.env.scope.kind=.function
 glob:X.env.globals=mainGlobals
 blt:X.env.builtins=builtinsNs
 above:X.s₀⁻¹<=X.env.locals
 inj:∀x y c,X.env.cells.lookup x=some c->X.env.cells.lookup y=some c->x=y
 has:∀x,(X.env.kindOf x=some .cell\/X.env.kindOf x=some .free)->∃c,X.env.cells.lookup x=some c
 cab:∀x c,X.fn x=true->X.env.cells.lookup x=some c->X.s₀⁻¹<=c
 hd:X.calm=true->X.A.handled=none
 frames:X.A.frames=some X.stack
 stk:X.stack=X.outer\/(X.stack=X.env::X.outer/\X.env.frame=some X.env.locals)
 exf:∀b∈X.ex,b≠X.env.locals/\∀x c,X.env.cells.lookup x=some c->c≠b
 bs:∀b o,X.base.get? b=some o->X.s₀.heap.get? b=some o/\X.H₀ b=none
 bsz:X.base.objs.size<=X.s₀⁻¹
 noex:∀b o,X.base.get? b=some o->b∉X.ex
 exfs:∀b∈X.ex,b∉X.fs
 funs:X.s₀.heap.FunFrames X.base X.outer
 frf:∀b∈X.fs,X.H₀ b=none
structure Inv(X:Cx)(aa:Ψ)(σ:List (Option V))(H:Hp)(s:Shared):Prop where
 ok:X.Ok
 os:s.os=X.s₀.os
 bare:AllBare s.gens
 base:Un X.fs X.ex X.H₀ H X.s₀.heap s.heap
 loc:∃m,s.heap.Ns X.env.locals m/\∀(i:Nat)(x:Str)(v:V),X.N[i]?=some x->σ[i]?=some (some v)->oT X.env.scope x->∃u,RelV v u/\Look X.env s.heap m x u
 cell:∀x c,X.env.cells.lookup x=some c->∃v,s.heap.IsCell c v
 free:H X.env.locals=none
 freeC:∀x c,X.env.cells.lookup x=some c->H c=none
 pin:∀p∈X.pn++aa,s.heap.get? p.1=some p.2/\H p.1=none/\p.1≠X.env.locals/\p.1∉X.fs/\∀v,p.2.data≠.cell v
 hok:HOk X.prog X.w H s.heap
 len:σ.length=X.N.length
section
variable{X:Cx}{aa:Ψ}{σ:List (Option V)}{H H':Hp}{s:Shared}{h':Heap}
def Cx.Ok.nofr(ok:X.Ok){b:Addr}{o:Obj}(e:X.base.get? b=some o):b∉X.fs:=fun hb=>by
 have:=(ok.funs.mem hb).1;rw[e] at this;cases this
def Inv.bs(I:Inv X aa σ H s):∀b o,X.base.get? b=some o->s.heap.get? b=some o/\H b=none:=fun b o e=>
 ⟨I.base.keep b o (I.ok.bs b o e).1 (I.ok.bs b o e).2 (I.ok.nofr e) (I.ok.noex b o e),I.base.free b o (I.ok.bs b o e).1 (I.ok.bs b o e).2 (I.ok.noex b o e)⟩
def Inv.bk(I:Inv X aa σ H s):∀b o,X.base.get? b=some o->s.heap.get? b=some o:=fun b o e=>(I.bs b o e).1
def Inv.mod(I:Inv X aa σ H s):Mod X.K X.mg X.base:=I.ok.mod
def Inv.kIn(I:Inv X aa σ H s):X.K.In s.heap:=I.ok.mod.kin.keeps I.bk
def Inv.nolimit(I:Inv X aa σ H s):s.heap.NoLimit:=I.ok.mod.nolimit.keeps I.bk
def Inv.fr(I:Inv X aa σ H s):∃m,Fr X.base X.env.locals s.heap m:=
 let ⟨m,hn,_⟩:=I.loc
 ⟨m,hn,I.bk,AD I.ok.bsz I.ok.above⟩
def Inv.lt(I:Inv X aa σ H s):X.env.locals<s⁻¹:=let ⟨_,hn,_⟩:=I.loc;hn.lt
def Inv.sz(I:Inv X aa σ H s):X.s₀⁻¹<=s⁻¹:=AD I.ok.above (Nat.le_of_lt I.lt)
def Inv.nofs(I:Inv X aa σ H s){a:Addr}(h:s⁻¹<=a):a∉X.fs:=fun hb=>by
 obtain⟨_,o,b,_⟩:=I.ok.funs.mem hb;exact absurd (AC (Ar b) (AD I.sz h)) (Nat.lt_irrefl _)
def Inv.cne(I:Inv X aa σ H s):∀x c,X.env.cells.lookup x=some c->c≠X.env.locals:=fun x c e z=>by
 obtain⟨v,o,b,hd⟩:=I.cell x c e;obtain⟨m,⟨o',es,ep,a,d,_⟩,_⟩:=I.loc;rw[z,a] at b;cases b;rw[d] at hd;cases hd
def Inv.funs(I:Inv X aa σ H s):s.heap.FunFrames X.base X.outer:=by
 have all:∀(l:List Env),(∀b∈frs l,b∈X.fs)->X.s₀.heap.FunFrames X.base l->s.heap.FunFrames X.base l:=by
  intro l
  induction l with
  |nil=>intro _ _;trivial
  |cons env r ih=>
   intro hs hl;obtain⟨hk,⟨L,o,hf,hn,c,hd⟩,hr⟩:=hl;have a:L∈X.fs:=hs L (by unfold frs;rw[List.filterMap_cons,hf];exact As);obtain⟨d,e⟩:=I.base.slot L o c (I.ok.frf L a) a fun z=>I.ok.exfs L z a;exact⟨hk,⟨L,_,hf,hn,e,hd⟩,ih (fun b hb=>hs b (by unfold frs;rw[List.filterMap_cons,hf];exact Aq _ hb)) hr⟩
 exact all X.outer (fun _ hb=>hb) I.ok.funs
def Inv.stack(I:Inv X aa σ H s):s.heap.FunFrames X.base X.stack:=by
 rcases I.ok.stk with e|⟨e,hf⟩
 ·rw[e];exact I.funs
 ·rw[e]
  obtain⟨m,hn,_⟩:=I.loc;refine .cons (by rw[I.ok.kind];decide) hf hn ?_ I.funs;exact Heap.get?_none_of_le (AD I.ok.bsz I.ok.above)
def Inv.stkSub(I:Inv X aa σ H s):∀b∈frs X.stack,b∈X.env.locals::X.fs:=fun b hb=>by
 rcases I.ok.stk with e|⟨e,hf⟩
 ·rw[e] at hb;exact Aq _ hb
 ·rw[e] at hb
  unfold frs at hb;rw[List.filterMap_cons,hf] at hb;exact hb
def Inv.stkFree(I:Inv X aa σ H s):∀b∈frs X.stack,H b=none:=fun b hb=>by
 rcases List.mem_cons.mp (I.stkSub b hb) with e|hb
 ·rw[e];exact I.free
 ·obtain⟨_,o,a,_⟩:=I.ok.funs.mem hb
  exact I.base.free b o a (I.ok.frf b hb) fun z=>I.ok.exfs b z hb
def Inv.step{g':Array GenState}{t':Nat}{d':Drawn}{ch:List Addr}(I:Inv X aa σ H s)(h:∀b∈ch,(b∈X.ex\/X.s₀⁻¹<=b)/\b≠X.env.locals/\(∀x c,X.env.cells.lookup x=some c->c≠b)/\∀p∈X.pn++aa,p.1≠b)(keep:∀b o,b≠X.env.locals->b∉X.fs->b∉ch->s.heap.get? b=some o->H b=none->h'.get? b=some o)(slot:∀b o,b≠X.env.locals->b∈X.fs->b∉ch->s.heap.get? b=some o->H b=none->∃A,h'.get? b=some {o with slots:=A})(free:∀b o,b∉ch->s.heap.get? b=some o->H b=none->H' b=none)(there:∀b o,b∉ch->s.heap.get? b=some o->∃o',h'.get? b=some o')(tups:∀b xs,H b=some (.tup xs)->H' b=some (.tup xs))(frzs:∀b o u,H b=some (.frz o u)->H' b=some (.frz o u))(tbls:∀b ps,H b=some (.tbl ps)->∃more,H' b=some (.tbl (ps++more)))(J:∀m,s.heap.Ns X.env.locals m->h'.Ns X.env.locals m)(C:HOk X.prog X.w H' h')(L:AllBare g'):Inv X aa σ H' {s with heap:=h',gens:=g',drawn:=d',toks:=t'}:=by
 have j:∀b o,X.s₀.heap.get? b=some o->b≠X.env.locals:=fun b o e=>Az (AC (Ar e) I.ok.above);have y:∀b o,X.s₀.heap.get? b=some o->b∉X.ex->b∉ch:=fun b o e hx hb=>by
  rcases(h b hb).1 with z|z
  ·exact hx z
  ·exact absurd (AC (Ar e) z) (Nat.lt_irrefl _)
 have a:∀x c,X.env.cells.lookup x=some c->∀v,s.heap.IsCell c v->h'.IsCell c v:=fun x c e v ⟨o,g,hd⟩=>by
  have f:c∉ch:=fun z=>(h c z).2.2.1 x c e rfl
  by_cases hc:c∈X.fs
  ·obtain⟨A,q⟩:=slot c o (I.cne x c e) hc f g (I.freeC x c e)
   exact⟨_,q,hd⟩
  ·exact⟨o,keep c o (I.cne x c e) hc f g (I.freeC x c e),hd⟩
 refine⟨I.ok,I.os,L,⟨fun b o e n hb hx=>?_,fun b o e n hb hx=>?_,fun b o e n hx=>?_,fun b o e hx=>?_,fun b xs e=>tups b xs (I.base.tups b xs e),fun b o xs e=>frzs b o xs (I.base.frzs b o xs e),fun b ps e=>?_⟩,?_,fun x c e=>?_,?_,fun x c e=>?_,fun p hp=>?_,C,I.len⟩
 ·exact keep b o (j b o e) hb (y b o e hx) (I.base.keep b o e n hb hx) (I.base.free b o e n hx)
 ·obtain⟨A,e1⟩:=I.base.slot b o e n hb hx
  obtain⟨E,e2⟩:=slot b _ (j b o e) hb (y b o e hx) e1 (I.base.free b o e n hx);exact⟨E,e2⟩
 ·obtain⟨o',e1⟩:=I.base.there b o e hx
  exact free b o' (y b o e hx) e1 (I.base.free b o e n hx)
 ·obtain⟨o',e1⟩:=I.base.there b o e hx
  exact there b o' (y b o e hx) e1
 ·obtain⟨F,e1⟩:=I.base.tbls b ps e
  obtain⟨G,e2⟩:=tbls b _ e1;exact⟨F++G,by rw[e2,Array.append_assoc]⟩
 ·obtain⟨m,hn,hl⟩:=I.loc
  refine⟨m,J m hn,fun i x v e1 e2 e3=>?_⟩;obtain⟨u,r,l⟩:=hl i x v e1 e2 e3;refine⟨u,r,?_⟩;rcases l with l|⟨k,c,e,z⟩
  ·exact .inl l
  ·exact .inr ⟨k,c,e,a x c e _ z⟩
 ·obtain⟨v,z⟩:=I.cell x c e
  exact⟨v,a x c e v z⟩
 ·obtain⟨m,⟨o,_,_,g,_⟩,_⟩:=I.loc
  exact free _ o (fun z=>(h _ z).2.1 rfl) g I.free
 ·obtain⟨v,o,g,hd⟩:=I.cell x c e
  exact free c o (fun z=>(h c z).2.2.1 x c e rfl) g (I.freeC x c e)
 ·obtain⟨e,n,ne,D,d⟩:=I.pin p hp
  have f:p.1∉ch:=fun z=>(h p.1 z).2.2.2 p hp rfl;exact⟨keep p.1 p.2 ne D f e n,free p.1 p.2 f e n,ne,D,d⟩
def Inv.un{t':Nat}(I:Inv X aa σ H s)(u:Un X.fs [] H H' s.heap h')(c:HOk X.prog X.w H' h'):Inv X aa σ H' {s with heap:=h',toks:=t'}:=by
 obtain⟨m,⟨o,es,ep,d,r⟩,_⟩:=id I.loc;obtain⟨l,f⟩:=u.any d I.free (by simp);exact I.step (g':=s.gens) (d':=s.drawn) (ch:=[]) (fun _ z=>nomatch z) (fun b o _ hb _ e n=>u.keep b o e n hb (by simp)) (fun b o _ hb _ e n=>u.slot b o e n hb (by simp)) (fun b o _ e n=>u.free b o e n (by simp)) (fun b o _ e=>u.there b o e (by simp)) u.tups u.frzs u.tbls (fun j hm=>by
  obtain⟨o',g,h,a,i⟩:=hm;rw[d] at a;cases a;exact⟨_,g,h,f,i⟩) c I.bare
def Inv.call{g':Array GenState}{t':Nat}{d':Drawn}{ch:List Addr}(I:Inv X aa σ H s)(u:Un (frs X.stack) ch H H' s.heap h')(f:HOk X.prog X.w H' h')(q:AllBare g')(h:∀b∈ch,(b∈X.ex\/X.s₀⁻¹<=b)/\b≠X.env.locals/\(∀x c,X.env.cells.lookup x=some c->c≠b)/\∀p∈X.pn++aa,p.1≠b):Inv X aa σ H' {s with heap:=h',gens:=g',drawn:=d',toks:=t'}:=by
 obtain⟨m,⟨o,es,ep,g,r⟩,_⟩:=id I.loc;obtain⟨y,d⟩:=u.any g I.free fun z=>(h _ z).2.1 rfl;exact I.step (ch:=ch) h (fun b o d hb hc e n=>u.keep b o e n (fun z=>(List.mem_cons.mp (I.stkSub b z)).elim d hb) hc) (fun b o _ _ hc e n=>u.any e n hc) (fun b o hc e n=>u.free b o e n hc) (fun b o hc e=>u.there b o e hc) u.tups u.frzs u.tbls (fun v hm=>by
  obtain⟨o',i,j,a,l⟩:=hm;rw[g] at a;cases a;exact⟨_,i,j,d,l⟩) f q
def Inv.turned{t':Nat}{it:Addr}(I:Inv X aa σ H s)(k:∀b o,b≠it->s.heap.get? b=some o->h'.get? b=some o)(hn:H it=none)(d:it≠X.env.locals)(h1:it∈X.ex\/X.s₀⁻¹<=it)(h2:∀x c,X.env.cells.lookup x=some c->c≠it)(h3:∀p∈X.pn++aa,p.1≠it):Inv X aa σ H {s with heap:=h',toks:=t'}:=by
 have a:∀b u,H b=some u->b≠it:=fun b u e z=>by rw[z,hn] at e;cases e
 refine I.step (g':=s.gens) (d':=s.drawn) (ch:=[it]) (fun b hb=>?_) (fun b o _ _ hc e _=>k b o (fun z=>hc (by simp[z])) e) (fun b o _ _ hc e _=>⟨o.slots,k b o (fun z=>hc (by simp[z])) e⟩) (fun _ _ _ _ n=>n)
  (fun b o hc e=>⟨o,k b o (fun z=>hc (by simp[z])) e⟩) (fun _ _ e=>e) (fun _ _ _ e=>e) (fun b ps e=>⟨#[],by rw[e];simp⟩) (fun m hm=>?_) (fun b u e=>?_) I.bare
 ·have e:b=it:=by simpa using hb
  subst e;exact⟨h1,d,h2,h3⟩
 ·obtain⟨o,es,ep,f,r⟩:=hm
  exact⟨o,es,ep,k _ o (Ne.symm d) f,r⟩
 ·refine(I.hok b u e).stay (fun c v hc q=>k c v ?_ q) (fun _ q=>q) fun _ _ q=>q
  rcases hc with z|z
  ·rw[z];exact a b u e
  ·exact a c _ z
def Inv.tok(I:Inv X aa σ H s)(t:Nat):Inv X aa σ H {s with toks:=t}:=I.un (h':=s.heap) (t':=t) Un.refl I.hok
def Inv.kept{t':Nat}(I:Inv X aa σ H s)(k:∀b u,s.heap.get? b=some u->h'.get? b=some u):Inv X aa σ H {s with heap:=h',toks:=t'}:=I.un (Un.kept k) (I.hok.kept k)
def Inv.laid{a:Addr}{o:HO}{t':Nat}(I:Inv X aa σ H s)(k:∀b u,s.heap.get? b=some u->h'.get? b=some u)(hp:s⁻¹<=a)(new:zJ X.prog X.w (upd H a o) h' a o):Inv X aa σ (upd H a o) {s with heap:=h',toks:=t'}:=I.un (Un.laid k hp (I.hok.fresh hp)) (I.hok.laid k hp new)
def Inv.write{x e:Addr}{o:HO}{t':Nat}(I:Inv X aa σ H s)(a:lR (H x))(he:e=x\/H e=some (.own x))(k:∀b u,b≠e->s.heap.get? b=some u->h'.get? b=some u)(c:∃u,h'.get? e=some u)(new:zJ X.prog X.w (upd H x o) h' x o):Inv X aa σ (upd H x o) {s with heap:=h',toks:=t'}:=I.un (Un.write a he k c) (I.hok.write a he k c new)
def Inv.pins_of{a:Ψ}(I:Inv X aa σ H s)(h:∀p∈a,s.heap.get? p.1=some p.2/\H p.1=none/\p.1≠X.env.locals/\p.1∉X.fs/\∀v,p.2.data≠.cell v):Inv X a σ H s:=
 ⟨I.ok,I.os,I.bare,I.base,I.loc,I.cell,I.free,I.freeC,fun p hp=>(List.mem_append.mp hp).elim (fun z=>I.pin p (List.mem_append_left _ z)) (h p),I.hok,I.len⟩
def z_{N:List Str}(c:N.Nodup){i j:Nat}{x:Str}(a:N[i]?=some x)(b:N[j]?=some x):i=j:=by
 obtain⟨h1,e1⟩:=List.getElem?_eq_some_iff.mp a;obtain⟨h2,e2⟩:=List.getElem?_eq_some_iff.mp b;exact(List.getElem_inj c).mp (e1.trans e2.symm)
def A_{M:Model}{A:Around}{E:Ω}{i:Nat}{x:Str}{v:V}{u:Value}{Q:Unit->Shared->Prop}(I:Inv X aa σ H s)(hN:X.N.Nodup)(hi:X.N[i]?=some x)(hx:Loc X.env.scope x)(r:RelV v u)(h:∀s',Inv X aa (σ.set i (some v)) H s'->(∃a,A6 a s.heap s'.heap/\(a=X.env.locals\/X.env.cells.lookup x=some a))->Q () s')(hf:X.fn x=true\/X.env.scope.names.lookup x=some .local:=by first|exact .inl rfl|exact .inr rfl|assumption):wpAny M A (storeName X.env x u) Q E s:=by
 obtain⟨m,hn,hl⟩:=id I.loc;have lD:(X.env.scope.kind==.class|| (X.env.scope.kind==.module&&X.env.locals != X.env.globals))=false:=by rw[I.ok.kind];rfl
 have f:i<σ.length:=by rw[I.len];exact(List.getElem?_eq_some_iff.mp hi).1
 have cne:=I.cne;have Y:∀{a:Addr}{h':Heap},(∃o,s.heap.get? a=some o/\H a=none)->A6 a s.heap h'->HOk X.prog X.w H h':=fun{a h'} ha hs b ob e=>by
  obtain⟨_,_,T⟩:=ha;refine(I.hok b ob e).stay (fun c l hc q=>(hs.2 c ?_).trans q) (fun _ q=>q) fun _ _ q=>q;rintro rfl;rcases hc with rfl|hc
  ·rw[T] at e;cases e
  ·rw[T] at hc;cases hc
 rcases hx with hk|hk
 ·refine wpAny_storeName_local hk hn (fun h' D hs=>?_) lD
  obtain⟨oL,_,_,G,_⟩:=id hn;refine h _ ⟨I.ok,I.os,I.bare,⟨fun b o e n hb hx=>?_,fun b o e n hb hx=>?_,I.base.free,fun b o e hx=>?_,I.base.tups,I.base.frzs,I.base.tbls⟩,⟨_,D,fun j y F e1 e2 e3=>?_⟩,fun y c e=>?_,I.free,I.freeC,fun p hp=>?_,Y ⟨oL,G,I.free⟩ hs,by simpa using I.len⟩ ⟨_,hs,.inl rfl⟩
  ·exact(hs.2 b (Az (AC (Ar e) I.ok.above))).trans (I.base.keep b o e n hb hx)
  ·obtain⟨J,e1⟩:=I.base.slot b o e n hb hx
   exact⟨J,(hs.2 b (Az (AC (Ar e) I.ok.above))).trans e1⟩
  ·obtain⟨o',e1⟩:=I.base.there b o e hx
   exact⟨o',(hs.2 b (Az (AC (Ar e) I.ok.above))).trans e1⟩
  ·by_cases g:j=i
   ·subst g
    rw[hi] at e1;cases e1;rw[List.getElem?_set_self f] at e2;cases e2;exact⟨u,r,.inl ⟨hk,by simp⟩⟩
   ·rw[List.getElem?_set_ne (Ne.symm g)] at e2
    obtain⟨L,O,q⟩:=hl j y F e1 e2 e3;refine⟨L,O,?_⟩;rcases q with ⟨k,e⟩|⟨k,c,e,z⟩
    ·refine .inl ⟨k,?_⟩
     have:y≠x:=fun e=>g (z_ hN e1 (e▸hi));simp[this,e]
    ·exact .inr ⟨k,c,e,z.sameBut hs (cne y c e)⟩
  ·obtain⟨l,z⟩:=I.cell y c e
   exact⟨l,z.sameBut hs (cne y c e)⟩
  ·obtain⟨e,n,ne,P,d⟩:=I.pin p hp
   exact⟨(hs.2 p.1 ne).trans e,n,ne,P,d⟩
 ·have S:X.fn x=true:=by
   rcases hf with z|z
   ·exact z
   ·rw[z] at hk;cases hk
  obtain⟨c,hc⟩:=I.ok.has x (.inl hk);obtain⟨l,z⟩:=I.cell x c hc;refine wpAny_storeName_cell I.ok.kind hk hc z (fun h' hc' hs=>?_);obtain⟨U,W,nq⟩:=id z;refine h {s with heap:=h'} ⟨I.ok,I.os,I.bare,⟨fun b o e n hb hx=>?_,fun b o e n hb hx=>?_,I.base.free,fun b o e hx=>?_,I.base.tups,I.base.frzs,I.base.tbls⟩,⟨m,hn.sameBut hs (Ne.symm (cne x c hc)),fun j y F e1 e2 e3=>?_⟩,fun y C e=>?_,I.free,I.freeC,fun p hp=>?_,Y ⟨U,W,I.freeC x c hc⟩ hs,by simpa using I.len⟩ ⟨c,hs,.inr hc⟩
  ·exact(hs.2 b (Az (AC (Ar e) (I.ok.cab x c S hc)))).trans (I.base.keep b o e n hb hx)
  ·obtain⟨J,e1⟩:=I.base.slot b o e n hb hx
   exact⟨J,(hs.2 b (Az (AC (Ar e) (I.ok.cab x c S hc)))).trans e1⟩
  ·obtain⟨o',e1⟩:=I.base.there b o e hx
   exact⟨o',(hs.2 b (Az (AC (Ar e) (I.ok.cab x c S hc)))).trans e1⟩
  ·by_cases g:j=i
   ·subst g
    rw[hi] at e1;cases e1;rw[List.getElem?_set_self f] at e2;cases e2;exact⟨u,r,.inr ⟨.inl hk,c,hc,hc'⟩⟩
   ·rw[List.getElem?_set_ne (Ne.symm g)] at e2
    obtain⟨L,O,q⟩:=hl j y F e1 e2 e3;refine⟨L,O,?_⟩;rcases q with q|⟨k,C,e,z'⟩
    ·exact .inl q
    ·refine .inr ⟨k,C,e,z'.sameBut hs ?_⟩
     rintro rfl;exact g (z_ hN e1 (I.ok.inj _ _ _ e hc▸hi))
  ·by_cases fM:C=c
   ·subst fM;exact⟨_,hc'⟩
   ·obtain⟨w2,z2⟩:=I.cell y C e
    exact⟨w2,z2.sameBut hs fM⟩
  ·obtain⟨e,n,ne,P,d⟩:=I.pin p hp
   refine⟨(hs.2 p.1 ?_).trans e,n,ne,P,d⟩;intro q;rw[q,W] at e;have q':U=p.2:=Am e;exact d l (by rw[<-q'];exact nq)
def Bf{M:Model}{A:Around}{E:Ω}{i:Nat}{x:Str}{v:V}{u:Value}{Q:Unit->Shared->Prop}(I:Inv X aa σ H s)(a:X.N.Nodup)(hi:X.N[i]?=some x)(hx:Loc X.env.scope x)(r:RelV v u)(h:∀s',Inv X aa (σ.set i (some v)) H s'->Q () s')(hf:X.fn x=true\/X.env.scope.names.lookup x=some .local:=by first|exact .inl rfl|exact .inr rfl|assumption):wpAny M A (storeName X.env x u) Q E s:=
 A_ I a hi hx r (fun s' b _=>h s' b) hf
def Inv.call'{s':Shared}{ch:List Addr}(I:Inv X aa σ H s)(d:s'.os=s.os)(u:Un (frs X.stack) ch H H' s.heap s'.heap)(a:HOk X.prog X.w H' s'.heap)(f:AllBare s'.gens)(g:∀b∈ch,(b∈X.ex\/X.s₀⁻¹<=b)/\b≠X.env.locals/\(∀x c,X.env.cells.lookup x=some c->c≠b)/\∀p∈X.pn++aa,p.1≠b):Inv X aa σ H' s':=by
 obtain⟨h',g',d',t',o'⟩:=s';have e:o'=s.os:=d;subst e;exact I.call (g':=g') (t':=t') (d':=d') u a f g
end
abbrev XK:=Value->Option Addr->Hp->Prop
abbrev St:=List (Option V)
abbrev VK:=V->Hp->Prop
abbrev TE:=St->Hp->VK->Prop
abbrev TT:=St->Hp->(Bool->Hp->Prop)->Prop
abbrev TA:=St->Hp->(List V->Hp->Prop)->Prop
structure Ends where
 nx:St->Hp->Prop
 rt:VK
 bk:St->Hp->Prop:=fun _ _=>False
 ct:St->Hp->Prop:=fun _ _=>False
abbrev TS:=Ends->St->Hp->Prop
def EP(X:Cx)(aa:Ψ)(σ:St)(Q:VK)(u:Value)(s':Shared):Prop:=∃v H',Inv X aa σ H' s'/\RelV v u/\Q v H'
def TP(X:Cx)(aa:Ψ)(σ:St)(Q:Bool->Hp->Prop)(b:Bool)(s':Shared):Prop:=∃H',Inv X aa σ H' s'/\Q b H'
def AP(X:Cx)(aa:Ψ)(σ:St)(Q:List V->Hp->Prop)(us:List Value)(s':Shared):Prop:=∃vs H',Inv X aa σ H' s'/\Vals vs us/\Q vs H'
def SP(X:Cx)(aa:Ψ)(D:Ends)(f:Flow)(s':Shared):Prop:=
 match f with
 |.next=>∃a H',Inv X aa a H' s'/\D.nx a H'
 |.brk=>∃a H',Inv X aa a H' s'/\D.bk a H'
 |.cont=>∃a H',Inv X aa a H' s'/\D.ct a H'
 |.ret u=>∃v a H',Inv X aa a H' s'/\RelV v u/\D.rt v H'
def PE(X:Cx)(e:Expr)(t:TE):Prop:=
 ∀(aa:Ψ)(s:Shared)(σ:St)(H:Hp)(Q:VK),Inv X aa σ H s->t σ H Q->wpAny (model X.prog X.w) X.A (eval e X.env) (EP X aa σ Q) X.xe s
def PT(X:Cx)(e:Expr)(t:TT):Prop:=
 ∀(aa:Ψ)(s:Shared)(σ:St)(H:Hp)(Q:Bool->Hp->Prop),Inv X aa σ H s->t σ H Q->wpAny (model X.prog X.w) X.A (isTrue e X.env (eval e X.env)) (TP X aa σ Q) X.xe s
def PW(X:Cx)(e:Expr)(t:TT):Prop:=
 ∀(a:Sem Value)(aa:Ψ)(s:Shared)(σ:St)(H:Hp)(Q:Bool->Hp->Prop),Inv X aa σ H s->t σ H Q->wpAny (model X.prog X.w) X.A (isTrue e X.env a) (TP X aa σ Q) X.xe s
def PW.pt{X:Cx}{e:Expr}{t:TT}(h:PW X e t):PT X e t:=h _
def PA(X:Cx)(es:List Expr)(t:TA):Prop:=
 ∀(pos:Pos)(aa:Ψ)(s:Shared)(σ:St)(H:Hp)(Q:List V->Hp->Prop),Inv X aa σ H s->t σ H Q->wpAny (model X.prog X.w) X.A (spliced (backTo pos (starEach es X.env))) (AP X aa σ Q) X.xe s
def PS(X:Cx)(st:Stmt)(t:TS):Prop:=
 ∀(aa:Ψ)(s:Shared)(σ:St)(H:Hp)(D:Ends),Inv X aa σ H s->t D σ H->wpAny (model X.prog X.w) X.A (exec st X.env) (SP X aa D) X.xe s
def PSs(X:Cx)(st:List Stmt)(t:TS):Prop:=
 ∀(aa:Ψ)(s:Shared)(σ:St)(H:Hp)(D:Ends),Inv X aa σ H s->t D σ H->wpAny (model X.prog X.w) X.A (execs st X.env) (SP X aa D) X.xe s
def aP{b:Type}{t:Sem b}{Q c:b->Shared->Prop}{M:Model}{A:Around}{E:Ω}{s:Shared}(h:wpAny M A t Q E s)(d:∀a s,Q a s->c a s):wpAny M A t c E s:=wpAny_mono h d fun _ _ x=>x
section
variable{X:Cx}
def am(i:Nat):TE:=fun σ H Q=>∃v,σ[i]?=some (some v)/\Q v H
def tC(v:V):TE:=fun _ H Q=>Q v H
def FW{i:Nat}{x:Str}{pos:Pos}(b:X.N[i]?=some x)(d:oT X.env.scope x)(hd:(x==("__debug__":Str))=false:=by decide)(f:(x==("__classdict__":Str))=false:=by decide):PE X (.Name x pos) (am i):=by
 intro aa s σ H Q I h;obtain⟨v,e,h⟩:=h;obtain⟨m,hn,hl⟩:=I.loc;obtain⟨u,r,l⟩:=hl i x v b e d;have fin:EP X aa σ Q u s:=⟨v,H,I,r,h⟩;rcases l with ⟨hk,hm⟩|⟨hk,c,hc,a⟩
 ·exact wpAny_Name (wpAny_loadName_local I.ok.kind hk hn hm fin) hd
 ·rcases hk with hk|hk
  ·exact wpAny_Name (wpAny_loadName_cell I.ok.kind hk hc a fin) hd
  ·exact wpAny_Name (wpAny_loadName_free I.ok.kind hk hc a fin f) hd
def zi{i j pos}:PE X (.Constant (.int i) j pos) (tC (.int i)):=fun _ _ _ H _ I h=>wpAny_Constant_int ⟨.int i,H,I.tok _,⟨_,rfl⟩,h⟩
def fA{b j pos}:PE X (.Constant (.bool b) j pos) (tC (.bl b)):=fun _ _ _ H _ I h=>Constant_bool ⟨.bl b,H,I,rfl,h⟩
def zT{x j pos}:PE X (.Constant (.str x) j pos) (tC (.str x)):=fun _ _ _ H _ I h=>Calls.Constant_str ⟨.str x,H,I.tok _,⟨_,rfl⟩,h⟩
def Gl(X:Cx)(x:Str):Prop:=X.env.kindOf x=some .globalImplicit
def tI{E:Ω}{aa:Ψ}{s:Shared}{σ:St}{H:Hp}{x:Str}{u:Value}{pos:Pos}{Q:Ω}(I:Inv X aa σ H s)(a:Gl X x)(hm:X.mg x=some u)(h:Q u s)(hd:(x==("__debug__":Str))=false:=by decide):wpAny (model X.prog X.w) X.A (eval (.Name x pos) X.env) Q E s:=
 Calls.Name_function_global I.ok.kind a (Calls.loadGlobal_global (by rw[I.ok.glob];exact I.mod.glob.keeps I.bk) hm h) hd
def jg{E:Ω}{aa:Ψ}{s:Shared}{σ:St}{H:Hp}{x:Str}{u:Value}{pos:Pos}{Q:Ω}(I:Inv X aa σ H s)(a:Gl X x)(hm:X.mg x=none)(b:A5 x=some u)(h:Q u s)(hn:x≠"__name__":=by decide)(hd:(x==("__debug__":Str))=false:=by decide):wpAny (model X.prog X.w) X.A (eval (.Name x pos) X.env) Q E s:=by
 obtain⟨c,h1,h2⟩:=I.mod.blt;exact Calls.Name_function_global I.ok.kind a (Calls.loadGlobal_builtin (by rw[I.ok.glob];exact I.mod.glob.keeps I.bk) hm (by rw[I.ok.blt];exact h1.keeps I.bk) ((h2 x hn).trans b) h) hd
def o6{x:Str}{v:V}{u:Value}{pos:Pos}(a:Gl X x)(hm:X.mg x=some u)(r:RelV v u)(hd:(x==("__debug__":Str))=false:=by decide):PE X (.Name x pos) (tC v):=
 fun _ _ _ H _ I h=>tI I a hm ⟨v,H,I,r,h⟩ hd
variable{a b:Expr}{ta tb:TE}{pos:Pos}
def PC(X:Cx)(op:CmpOp)(a b:Expr)(t:TE):Prop:=
 ∀(aa:Ψ)(s:Shared)(σ:St)(H:Hp)(Q:VK),Inv X aa σ H s->t σ H Q->
  wpAny (model X.prog X.w) X.A (eval a X.env) (fun v c=>wpAny (model X.prog X.w) X.A (eval b X.env) (fun u s₂=>wpAny (model X.prog X.w) X.A (compareOp op v u) (EP X aa σ Q) X.xe s₂) X.xe c) X.xe s
def fT(b:Expr){op:CmpOp}(h:op≠.In)(h2:op≠.NotIn):behindInMarks op b=false:=by
 have e1:(op==CmpOp.In)=false:=by cases op<;>first|rfl|exact absurd rfl h
 have e2:(op==CmpOp.NotIn)=false:=by cases op<;>first|rfl|exact absurd rfl h2
 cases b<;>simp[behindInMarks,e1,e2]
def tB(t:TE):TT:=fun σ H Q=>t σ H fun x H1=>∃c,x=.bl c/\Q c H1
def Bg{op:CmpOp}{t:TE}(h:PC X op a b t)(h1:behindInMarks op b=false:=by first|exact fT _ ξ ξ|rfl):PT X (.Compare a [op] [b] pos) (tB t):=by
 intro aa s σ H Q I hw;refine wpAny_isTrue_Compare1 (aP (h aa s σ H _ I hw) fun v i h1=>aP h1 fun u j h2=>aP h2 fun c l ⟨x,H1,g,e,f⟩=>?_) h1;obtain⟨d,rfl,q⟩:=f;cases e;exact wpAny_truthy_bool ⟨H1,g,q⟩
def Bh{e:Expr}{t:TE}(h:PE X e t)(he:∀a,isTrue e X.env a=(do let v <-a;standAt e.pos;holding [v] (truthy v)):=by intro _;rfl):PT X e (tB t):=by
 intro aa s σ H Q I hw;refine isTrue_plain (aP (h aa s σ H _ I hw) fun v g ⟨x,H1,f,b,c⟩=>?_) (he _);obtain⟨d,rfl,q⟩:=c;cases b;exact wpAny_truthy_bool ⟨H1,f,q⟩
variable{tA ko:TT}{rest:List Expr}
def tO(t u:TT):TT:=fun σ H Q=>t σ H fun c H1=>if c=true then u σ H1 Q else Q false H1
def FX(t u:TT):TT:=fun σ H Q=>t σ H fun c H1=>if c=true then Q true H1 else u σ H1 Q
def tP(t:TT):TT:=fun σ H Q=>t σ H fun c H1=>Q (!c) H1
def FY(b:PT X a tA):PW X (.BoolOp .And [a] pos) tA:=by
 intro d aa s σ H Q I h;refine isTrue_and (aP (b aa s σ H Q I h) fun c f e=>?_);cases c with
 |true=>exact isTrue_and_nil e
 |false=>exact e
def Bi(b:PT X a tA):PW X (.BoolOp .Or [a] pos) tA:=by
 intro d aa s σ H Q I h;refine isTrue_or (aP (b aa s σ H Q I h) fun c f e=>?_);cases c with
 |false=>exact isTrue_or_nil e
 |true=>exact e
def FZ(i:PT X a tA)(hb:PW X (.BoolOp .And (b::rest) pos) ko):PW X (.BoolOp .And (a::b::rest) pos) (tO tA ko):=by
 intro f aa s σ H Q I h;refine isTrue_and (aP (i aa s σ H _ I h) fun c g ⟨H1,e,d⟩=>?_);cases c with
 |true=>exact hb f aa g σ H1 Q e d
 |false=>exact⟨H1,e,d⟩
def Bj(i:PT X a tA)(hb:PW X (.BoolOp .Or (b::rest) pos) ko):PW X (.BoolOp .Or (a::b::rest) pos) (FX tA ko):=by
 intro f aa s σ H Q I h;refine isTrue_or (aP (i aa s σ H _ I h) fun c g ⟨H1,e,d⟩=>?_);cases c with
 |true=>exact⟨H1,e,d⟩
 |false=>exact hb f aa g σ H1 Q e d
def tQ(b:PT X a tA):PT X (.UnaryOp .Not a pos) (tP tA):=by
 intro aa s σ H Q I h;exact isTrue_not (b aa s σ H (fun c H1=>Q (!c) H1) I h)
def F0(t:TT)(ta tb:TE):TE:=fun σ H Q=>t σ H fun c H1=>if c=true then ta σ H1 Q else tb σ H1 Q
def F4{c:Expr}(hc:PT X c tA)(i:PE X a ta)(hb:PE X b tb):PE X (.IfExp c a b pos) (F0 tA ta tb):=by
 intro aa s σ H Q I h;refine wpAny_IfExp (aP (hc aa s σ H _ I h) fun d e ⟨H1,g,f⟩=>?_);cases d with
 |true=>exact i aa e σ H1 Q g f
 |false=>exact hb aa e σ H1 Q g f
end
def SqL(K:Af)(H:Hp)(a:Addr)(xs:List V):Prop:=
 Rd H a (.lst xs) \/
  ∃(o:Obj)(b:Array Value)(n:Nat),K.lookup a=some o/\o.cls=.type "list"/\o.dict=none/\o.data=.seq b n/\b.size<=sizeLine/\Vals xs b.toList
def SqT(K:Af)(H:Hp)(a:Addr)(xs:List V):Prop:=
 Rd H a (.tup xs) \/
  ∃(o:Obj)(b:Array Value)(n:Nat),K.lookup a=some o/\o.cls=.type "tuple"/\o.data=.seq b n/\b.size<=sizeLine/\Vals xs b.toList
def tR:Value->Option V
 |.none=>some .non
 |.bool b=>some (.bl b)
 |.int i _=>some (.int i)
 |.str x _=>some (.str x)
 |.bytes b _=>some (.byt b)
 |.float b _=>some (.flt b)
 |.ref a=>some (.ref a)
 |.type n=>some (.ty n)
 |_=>none
def RelV.abs{x:V}{u:Value}(r:RelV x u):tR u=some x:=by
 cases x with
 |non=>cases r;rfl
 |bl _=>cases r;rfl
 |int _=>obtain⟨t,rfl⟩:=r;rfl
 |str _=>obtain⟨t,rfl⟩:=r;rfl
 |byt _=>obtain⟨t,rfl⟩:=r;rfl
 |flt _=>obtain⟨t,rfl⟩:=r;rfl
 |ref _=>cases r;rfl
 |ty _=>cases r;rfl
def RelV.inj{x y:V}{u:Value}(r:RelV x u)(q:RelV y u):x=y:=Am (r.abs.symm.trans q.abs)
def Vals.inj{xs ys:List V}{us:List Value}(h:Vals xs us)(g:Vals ys us):xs=ys:=by
 induction h generalizing ys with
 |nil=>cases g;rfl
 |cons r t ih=>cases g with|cons r' t'=>rw[r.inj r',ih t']
section
variable{X:Cx}{aa:Ψ}{σ:St}{H:Hp}{s:Shared}{a:Addr}{xs ys:List V}
def SqL.of{K:Af}(h:H a=some (.lst xs)):SqL K H a xs:=.inl (.inl h)
def SqT.of{K:Af}(h:H a=some (.tup xs)):SqT K H a xs:=.inl (.inl h)
def Inv.list(I:Inv X aa σ H s)(h:SqL X.K H a xs):∃b:List Value,Vals xs b/\PlainL s.heap a b.toArray/\xs.length<=sizeLine:=by
 rcases h with h|⟨o,b,n,hk,hc,hd,hs,hz,r⟩
 ·obtain⟨z,b,n,r,e⟩:=h.ok I.hok
  exact⟨b,r,⟨_,n,e,rfl,rfl,rfl⟩,z⟩
 ·refine⟨b.toList,r,⟨o,n,I.kIn a o hk,hc,hd,by simpa using hs⟩,?_⟩
  have e:=r.length;simp only[A1] at e;omega
def Inv.tuple(I:Inv X aa σ H s)(h:SqT X.K H a xs):∃b:List Value,Vals xs b/\IsTup s.heap a b.toArray/\xs.length<=sizeLine:=by
 rcases h with h|⟨o,b,n,hk,hc,hs,hz,r⟩
 ·obtain⟨z,b,r,p⟩:=h.ok I.hok
  exact⟨b,r,p,z⟩
 ·refine⟨b.toList,r,⟨o,I.kIn a o hk,hc,n,by simpa using hs⟩,?_⟩
  have e:=r.length;simp only[A1] at e;omega
def Inv.list_inj(I:Inv X aa σ H s)(h:SqL X.K H a xs)(h':SqL X.K H a ys):xs=ys:=by
 obtain⟨c,r,⟨o,n,e,_,_,d⟩,_⟩:=I.list h;obtain⟨its',f,⟨o',g,b,_,_,d'⟩,_⟩:=I.list h';rw[e] at b;cases b;rw[d] at d';injection d' with d1 _
 have:c=its':=by simpa using congrArg Array.toList d1
 subst this;exact r.inj f
def Inv.tuple_inj(I:Inv X aa σ H s)(h:SqT X.K H a xs)(h':SqT X.K H a ys):xs=ys:=by
 obtain⟨c,r,⟨o,e,_,n,d⟩,_⟩:=I.tuple h;obtain⟨its',f,⟨o',b,_,g,d'⟩,_⟩:=I.tuple h';rw[e] at b;cases b;rw[d] at d';injection d' with d1 _
 have:c=its':=by simpa using congrArg Array.toList d1
 subst this;exact r.inj f
end
abbrev Cx.wish(X:Cx)(E:Ω):Cx:={X with xe:=E}
abbrev Cx.nox(X:Cx):Cx:=X.wish fun _ _=>False
def Cx.Ok.wish{X:Cx}(ok:X.Ok)(E:Ω):(X.wish E).Ok:=
 ⟨ok.mod,ok.kind,ok.glob,ok.blt,ok.above,ok.inj,ok.has,ok.cab,ok.hd,ok.frames,ok.stk,ok.exf,ok.bs,ok.bsz,ok.noex,ok.exfs,ok.funs,ok.frf⟩
def Cx.Ok.unwish{X:Cx}{E:Ω}(ok:(X.wish E).Ok):X.Ok:=
 ⟨ok.mod,ok.kind,ok.glob,ok.blt,ok.above,ok.inj,ok.has,ok.cab,ok.hd,ok.frames,ok.stk,ok.exf,ok.bs,ok.bsz,ok.noex,ok.exfs,ok.funs,ok.frf⟩
section
variable{X:Cx}{aa:Ψ}{σ:St}{H:Hp}{s:Shared}{E:Ω}
def Inv.wish(I:Inv X aa σ H s)(E:Ω):Inv (X.wish E) aa σ H s:=⟨I.ok.wish E,I.os,I.bare,I.base,I.loc,I.cell,I.free,I.freeC,I.pin,I.hok,I.len⟩
def Inv.unwish(I:Inv (X.wish E) aa σ H s):Inv X aa σ H s:=⟨I.ok.unwish,I.os,I.bare,I.base,I.loc,I.cell,I.free,I.freeC,I.pin,I.hok,I.len⟩
def SP.unwish{D:Ends}{f:Flow}{s':Shared}(h:SP (X.wish E) aa D f s'):SP X aa D f s':=by
 cases f with
 |next=>obtain⟨a,H',I,q⟩:=h;exact⟨a,H',I.unwish,q⟩
 |brk=>obtain⟨a,H',I,q⟩:=h;exact⟨a,H',I.unwish,q⟩
 |cont=>obtain⟨a,H',I,q⟩:=h;exact⟨a,H',I.unwish,q⟩
 |ret u=>obtain⟨v,a,H',I,r,q⟩:=h;exact⟨v,a,H',I.unwish,r,q⟩
def PSs.nox{st:List Stmt}{t:TS}(h:PSs X.nox st t):PSs X st t:=fun aa s σ H D I hw=>
 wpAny_mono (h aa s σ H D (I.wish _) hw) (fun _ _ q=>q.unwish) fun _ _ z=>False.elim z
end
section
variable{X:Cx}{st:Stmt}{rest:List Stmt}{t u:TS}{e:Expr}{te:TE}{pos:Pos}
def F5:TS:=fun D σ H=>D.nx σ H
def lT(t u:TS):TS:=fun D σ H=>t {D with nx:=u D} σ H
def zE:PSs X [] F5:=fun _ _ σ H _ I h=>wpAny_execs_nil ⟨σ,H,I,h⟩
def zd(h1:PS X st t)(h2:PSs X rest u):PSs X (st::rest) (lT t u):=by
 intro aa s σ H D I h;refine wpAny_execs_cons (aP (h1 aa s σ H {D with nx:=u D} I h) fun f a q=>?_);cases f with
 |next=>
  obtain⟨b,H',c,q⟩:=q;exact h2 aa a b H' D c q
 |ret v=>exact q
 |brk=>exact q
 |cont=>exact q
def zg(h1:PS X st t):PSs X [st] t:=by
 intro aa s σ H D I h;refine wpAny_execs_cons (aP (h1 aa s σ H D I h) fun f a q=>?_);cases f with
 |next=>exact wpAny_execs_nil q
 |ret v=>exact q
 |brk=>exact q
 |cont=>exact q
def Inv.quiet{aa:Ψ}{σ:St}{H:Hp}{s:Shared}(I:Inv X aa σ H s):interactive X.env=false:=by simp[interactive,I.ok.kind]
def F6(te:TE):TS:=fun D σ H=>te σ H fun _ H1=>D.nx σ H1
def gN(he:PE X e te)(hs:swapsWith e none pos.line X.env=pure false:=by rfl):PS X (.Expr e pos) (F6 te):=by
 intro aa s σ H D I h;exact wpAny_Expr_any (aP (he aa s σ H _ I h) fun v c ⟨x,H1,b,d,a⟩=>⟨σ,H1,b,a⟩) I.quiet hs
def tT(te:TE):TS:=fun D σ H=>te σ H D.rt
def zu(he:PE X e te):PS X (.Return (some e) pos) (tT te):=by
 intro aa s σ H D I h;exact wpAny_Return_some (aP (he aa s σ H _ I h) fun v d ⟨x,H1,c,a,b⟩=>⟨x,σ,H1,c,a,b⟩)
def tU(c:TT)(t u:TS):TS:=fun D σ H=>c σ H fun b H1=>if b=true then t D σ H1 else u D σ H1
def cY{c:Expr}{a b:List Stmt}{tc:TT}(hc:PT X c tc)(i:PSs X a t)(hb:PSs X b u):PS X (.If c a b pos) (tU tc t u):=by
 intro aa s σ H D I h;refine wpAny_If (aP (hc aa s σ H _ I h) fun d e ⟨H1,g,f⟩=>?_);cases d with
 |true=>exact i aa e σ H1 D g f
 |false=>exact hb aa e σ H1 D g f
def F7:TS:=fun _ _ _=>False
def t8{a:List Stmt}:PSs X a F7:=fun _ _ _ _ _ _ h=>h.elim
end
abbrev TG:=V->St->Hp->(St->Hp->Prop)->Prop
abbrev jh:=List V->St->Hp->(St->Hp->Prop)->Prop
def PG(X:Cx)(b:Expr)(t:TG):Prop:=
 ∀(aa:Ψ)(s:Shared)(σ:St)(H:Hp)(v:V)(u:Value)(Q:St->Hp->Prop),Inv X aa σ H s->RelV v u->t v σ H Q->
  wpAny (model X.prog X.w) X.A (assign b X.env u) (fun _ s'=>∃a H',Inv X aa a H' s'/\Q a H') X.xe s
def pi(X:Cx)(ts:List Expr)(t:jh):Prop:=
 ∀(aa:Ψ)(s:Shared)(σ:St)(H:Hp)(vs:List V)(us:List Value)(Q:St->Hp->Prop),Inv X aa σ H s->Vals vs us->t vs σ H Q->
  wpAny (model X.prog X.w) X.A (assignInOrder ((assignEach ts X.env).map (·.2)) us) (fun _ s'=>∃a H',Inv X aa a H' s'/\Q a H') X.xe s
abbrev ji:=V->V->V->Hp->(Hp->Prop)->Prop
def lY(X:Cx)(t:ji):Prop:=
 ∀(aa:Ψ)(s:Shared)(σ:St)(H:Hp)(o i v:V)(a b u:Value)(Q:Hp->Prop),Inv X aa σ H s->RelV o a->RelV i b->RelV v u->t o i v H Q->
  wpAny (model X.prog X.w) X.A (setItem a b u) (fun _ s'=>∃H',Inv X aa σ H' s'/\Q H') X.xe s
section
variable{X:Cx}{pos:Pos}
def cn(i:Nat):TG:=fun v σ H Q=>Q (σ.set i (some v)) H
def zk{i:Nat}{x:Str}(a:X.N.Nodup)(hi:X.N[i]?=some x)(hx:Loc X.env.scope x)(hf:X.fn x=true\/X.env.scope.names.lookup x=some .local:=by first|exact .inl rfl|exact .inr rfl|assumption):PG X (.Name x pos) (cn i):=by
 intro aa s σ H v u Q I r h;exact wpAny_assign_Name (Bf I a hi hx r (fun s' b=>⟨_,H,b,h⟩) hf)
def l0:jh:=fun vs σ H Q=>vs=[]/\Q σ H
def uj(t:TG)(u:jh):jh:=fun vs σ H Q=>∃v r,vs=v::r/\t v σ H fun a H'=>u r a H' Q
def F_:pi X [] l0:=by
 intro aa s σ H vs us Q I r h;obtain⟨e,h⟩:=h;subst e;cases r;exact assignInOrder_nil ⟨σ,H,I,h⟩
def Bk{e:Expr}{es:List Expr}{t:TG}{u:jh}(h1:PG X e t)(h2:pi X es u)(hs:(assignEach (e::es) X.env).map (·.2)=assign e X.env::(assignEach es X.env).map (·.2):=by rfl):pi X (e::es) (uj t u):=by
 intro aa s σ H vs us Q I r h;obtain⟨v,f,e1,h⟩:=h;subst e1;cases r with
 |cons r rr=>
  rw[hs];refine assignInOrder_cons (aP (h1 aa s σ H _ _ _ I r h) fun _ a ⟨b,H1,d,c⟩=>?_);exact h2 aa a b H1 _ _ Q d rr c
def l3(K:Af)(n:Nat)(t:jh):TG:=fun v σ H Q=>∃a xs,v=.ref a/\SqT K H a xs/\xs.length=n/\t xs σ H Q
def F'{es:List Expr}{k:Nat}{t:jh}{n:Nat}(hc:X.calm=true)(h:pi X es t)(hn:(assignEach es X.env).length=n:=by rfl)(c:(assignEach es X.env).findIdx? (·.1)=none:=by rfl):PG X (.Tuple es k pos) (l3 X.K n t):=by
 intro aa s σ H v u Q I r hw;obtain⟨a,xs,e1,hq,hl,hw⟩:=hw;subst e1;cases r;obtain⟨i,d,f,hz⟩:=I.tuple hq;refine assign_Tuple_tuple (I.ok.hd hc) f (by simp[hn,<-hl,d.length]) c fun h' hx=>?_;have g:Inv X aa σ H {s with heap:=h'}:=I.kept (t':=s.toks) fun b o e=>hx b o (Az (Ar e)) e;exact h aa _ σ H xs _ Q g (by simpa using d) hw
def up(to a:TE)(t:ji):TG:=fun v σ H Q=>to σ H fun o H1=>a σ H1 fun i H2=>t o i v H2 fun b=>Q σ b
def Bm{o i:Expr}{to c:TE}{t:ji}(q:PE X o to)(hi:PE X i c)(hs:lY X t)(w:∀v,assign (.Subscript o i pos) X.env v=(do
   let a <-holding [v] (eval o X.env)
   let b <-holding [v,a] (eval i X.env)
   standAt pos
   holding [v,a,b] (setItem a b v)
   release [v,a,b] []):=by intro _;rfl):PG X (.Subscript o i pos) (up to c t):=by
 intro aa s σ H v u Q I r h;rw[w];refine Ab (AM (aP (q aa s σ H _ I h) fun a d ⟨x,H1,z,e,f⟩=>?_));refine Ab (AM (aP (hi aa d σ H1 _ z f) fun b g ⟨y,H2,A,j,l⟩=>?_));refine Ab (wpAny_standAt (Ab (AM (aP (hs aa g σ H2 x y v a b u _ A e j r l) fun _ E ⟨C,D,p⟩=>?_))));exact wpAny_release ⟨σ,C,D,p⟩
def hZ(te:TE)(g:TG):TS:=fun D σ H=>te σ H fun x H1=>g x σ H1 D.nx
def Bn{tg e:Expr}{te:TE}{g:TG}(he:PE X e te)(d:PG X tg g)(hs:swapsWithSole [tg] e pos.line X.env=pure false:=by rfl)(hw:swappedStores [tg] e X.env=pure none:=by rfl)(h1:(assignEach [tg] X.env).map (·.2)=[assign tg X.env]:=by rfl):PS X (.Assign [tg] e pos) (hZ te g):=by
 intro aa s σ H D I h;refine wpAny_Assign_stores (aP (he aa s σ H _ I h) fun v a ⟨x,H1,f,b,c⟩=>?_) hs hw;rw[h1];exact aP (d aa a σ H1 x v _ f b c) fun _ i q=>q
def zp{i:Nat}{x:Str}{e:Expr}{te:TE}{aX:Pos}(c:X.N.Nodup)(hi:X.N[i]?=some x)(hx:Loc X.env.scope x)(he:PE X e te)(hs:swapsWith e (some (.Name x aX)) pos.line X.env=pure false:=by rfl)(hf:X.fn x=true\/X.env.scope.names.lookup x=some .local:=by first|exact .inl rfl|exact .inr rfl|assumption):PS X (.Assign [.Name x aX] e pos) (hZ te (cn i)):=by
 intro aa s σ H D I h;refine wpAny_Assign_Name (aP (he aa s σ H _ I h) fun v g ⟨y,H1,d,a,b⟩=>?_) hs;exact Bf d c hi hx a (fun j f=>⟨_,H1,f,b⟩) hf
def Gb(c:TT)(tb:TS):TS:=fun D σ H=>∃W:Nat->St->Hp->Prop,(∃m,W m σ H)/\∀m σ H,W m σ H->
 c σ H fun b H1=>if b=true then ∃N:St->Hp->Prop,(∀a H',N a H'->∃d,d<m/\W d a H')/\tb {D with nx:=N,ct:=N,bk:=D.nx} σ H1 else D.nx σ H1
def Bo{c:Expr}{body:List Stmt}{tc:TT}{tb:TS}(hp:PassesOwn (model X.prog X.w) X.A X.env X.xe)(hc:PT X c tc)(hb:PSs X body tb):PS X (.While c body [] pos) (Gb tc tb):=by
 intro aa s σ H D I h;obtain⟨W,⟨y,z⟩,turn⟩:=h;refine wpAny_While (codeAny_whileLoop (fun n s'=>∃q H',Inv X aa q H' s'/\W n q H') ?_ y ⟨σ,H,I,z⟩);rintro n C ⟨i,H1,F,E⟩;refine wpAny_passesOwn hp (aP (hc aa C i H1 _ F (turn n i H1 E)) fun b x ⟨H2,u,e⟩=>?_);cases b with
 |true=>
  obtain⟨N,r,e⟩:=e;rw[if_pos rfl];refine wpAny_passesOwn hp (aP (hb aa x i H2 _ u e) fun f G g=>?_);cases f with
  |next=>
   obtain⟨a,d,p,j⟩:=g;obtain⟨l,hm,o⟩:=r a d j;exact⟨l,hm,a,d,p,o⟩
  |cont=>
   obtain⟨a,d,p,j⟩:=g;obtain⟨l,hm,o⟩:=r a d j;exact⟨l,hm,a,d,p,o⟩
  |brk=>exact g
  |ret v=>exact g
 |false=>
  rw[if_neg At];exact wpAny_execs_nil ⟨i,H2,u,e⟩
end
structure It where
 go:Nat->Hp->Prop
 yld:Nat->Hp->V->Hp->Prop
 stop:Nat->Hp->Prop
def bm(X:Cx)(aa:Ψ)(H:Hp)(b:Addr):Prop:=
 H b=none/\b≠X.env.locals/\b∉X.fs/\(b∈X.ex\/X.s₀⁻¹<=b)/\(∀x c,X.env.cells.lookup x=some c->c≠b)/\∀p∈X.pn++aa,p.1≠b
def Inv.fpOk{X:Cx}{aa:Ψ}{σ:St}{H H':Hp}{s:Shared}{b:Addr}(I:Inv X aa σ H s)(hb:s⁻¹<=b)(hn:H' b=none):bm X aa H' b:=by
 refine⟨hn,Nat.ne_of_gt (AC I.lt hb),I.nofs hb,.inr (AD I.sz hb),fun x c e z=>?_,fun p hp z=>?_⟩
 ·obtain⟨v,q⟩:=I.cell x c e
  exact absurd (AC q.lt (by rw[z];exact hb)) (Nat.lt_irrefl _)
 ·exact absurd (AC (Ar (I.pin p hp).1) (by rw[z];exact hb)) (Nat.lt_irrefl _)
structure Turn(P:Program)(w:World)(K:Af)(tg:Expr)(J:It)(fp:List Addr)(it:Addr)(tn:Nat->Heap->Prop):Prop where
 mem:it∈fp
 obj:∀i h,tn i h->∀b∈fp,∃o,h.get? b=some o/\∀v,o.data≠.cell v
 keep:∀i h h',tn i h->(∀b∈fp,∀o,h.get? b=some o->h'.get? b=some o)->tn i h'
 item:∀(X:Cx),X.prog=P->X.w=w->X.K=K->X.calm=true->∀(i:Nat)(aa:Ψ)(s:Shared)(σ:St)(H:Hp)(E:Ω),Inv X aa σ H s->(∀b∈fp,bm X aa H b)->tn i s.heap->J.go i H->
  wpAny (model P w) X.A (pyNext (.ref it)) (fun r s1=>∃u,r=some u/\
   wpAny (model P w) X.A (letOwnedTupleGo tg (.ref it) u) (fun _ s2=>∃x H',Inv X aa σ H' s2/\RelV x u/\J.yld i H x H'/\tn (i+1) s2.heap/\∀b∈fp,H' b=none) E s1) E s
 done:∀(X:Cx),X.prog=P->X.w=w->X.K=K->X.calm=true->∀(i:Nat)(aa:Ψ)(s:Shared)(σ:St)(H:Hp)(E:Ω),Inv X aa σ H s->(∀b∈fp,bm X aa H b)->tn i s.heap->J.stop i H->
  wpAny (model P w) X.A (pyNext (.ref it)) (fun r s1=>r=none/\Inv X aa σ H s1) E s
 self:∀(A:Around)(i:Nat)(s:Shared)(Q:Ω)(E:Ω),tn i s.heap->Q (.ref it) s->wpAny (model P w) A (pyIter (.ref it)) Q E s
abbrev TI:=St->Hp->(It->Hp->Prop)->Prop
def Bp(X:Cx)(aa:Ψ)(σ:St)(tg:Expr)(R:It->Hp->Prop)(d:Value)(a:Shared):Prop:=
 ∃(it:Addr)(fp:List Addr)(c:Nat->Heap->Prop)(J:It)(H':Hp),d=.ref it/\Inv X aa σ H' a/\Turn X.prog X.w X.K tg J fp it c/\c 0 a.heap/\(∀b∈fp,bm X aa H' b)/\R J H'
def PI(X:Cx)(tg iter:Expr)(wi:TI):Prop:=
 ∀(aa:Ψ)(s:Shared)(σ:St)(H:Hp)(R:It->Hp->Prop),Inv X aa σ H s->wi σ H R->
  wpAny (model X.prog X.w) X.A (eval iter X.env) (fun v a=>wpAny (model X.prog X.w) X.A (pyIter v) (Bp X aa σ tg R) X.xe a) X.xe s
def l8{M:Model}{A:Around}{E:Ω}{s:Shared}{tg:Expr}{it:Addr}{u:Value}{o:Obj}{n:String}{vs:Array Value}{Q:Unit->Shared->Prop}(b:s.heap.get? it=some o)(hc:o.cls=.type n)(hd:o.data=.fields vs)(hn:["enumerate","zip","dict_itemiterator","dict_reverseitemiterator","odict_iterator","itertools.zip_longest","itertools.pairwise"].contains n=false)(a:Q () s):wpAny M A (letOwnedTupleGo tg (.ref it) u) Q E s:=by
 unfold letOwnedTupleGo;cases tg<;>first
  |exact Ac a
  |(cases u<;>first
    |exact Ac a
    |(refine Ab (wpAny_load b ?_);rw[hc,hd];show wpAny M A (if(["enumerate","zip","dict_itemiterator","dict_reverseitemiterator","odict_iterator","itertools.zip_longest","itertools.pairwise"].contains n&&vs[0]?==some (rawInt _))=true then _ else _) Q E s;rw[if_neg (by intro h;rw[hn,Bool.false_and] at h;cases h)];exact Ac a))
def dn(K:Af)(a:Addr):It:=
 ⟨fun i H=>∃xs x,SqL K H a xs/\xs[i]?=some x,fun i H x H'=>H'=H/\∀xs,SqL K H a xs->xs[i]?=some x,fun i H=>∃xs,SqL K H a xs/\xs.length<=i⟩
def jk(K:Af)(a:Addr):It:=
 ⟨fun i H=>∃xs x,SqT K H a xs/\xs[i]?=some x,fun i H x H'=>H'=H/\∀xs,SqT K H a xs->xs[i]?=some x,fun i H=>∃xs,SqT K H a xs/\xs.length<=i⟩
def eN(lo:Int)(n:Nat):It:=⟨fun i _=>i<n,fun i H x H'=>H'=H/\x=.int (lo+i),fun i _=>n<=i⟩
def Gc{P:Program}{w:World}{K:Af}{tg:Expr}(a it:Addr):Turn P w K tg (dn K a) [it] it (fun i h=>h.IsListIter it a i) where
 mem:=by simp
 obj:=fun i h st b hb=>by
  have e:b=it:=by simpa using hb
  subst e;obtain⟨o,e,c,d⟩:=st;exact⟨o,e,fun v z=>by rw[d] at z;cases z⟩
 keep:=fun i h h' st k=>st.at fun o e=>k it (by simp) o e
 item:=by
  intro X f hw g hc i aa s σ H E I hf st j;subst f hw g;obtain⟨xs,x,hq,hx⟩:=j;obtain⟨F,l,p,hz⟩:=I.list hq;obtain⟨u,hu,G⟩:=l.get hx;obtain⟨q,f1,f2,r,y,f5⟩:=hf it (by simp);refine wpAny_pyNext_list_item st p.isList (x:=u) (by simpa using hu) fun h' A C=>?_;have J:Inv X aa σ H {s with heap:=h'}:=I.turned (t':=s.toks) (fun b o hb e=>(C.2 b hb).trans e) q f1 r y f5;obtain⟨o,e,c,d⟩:=id A;exact⟨u,rfl,l8 (s:={s with heap:=h'}) e c d ξ ⟨x,H,J,G,⟨rfl,fun ys hy=>by rw[I.list_inj hy hq];exact hx⟩,A,fun b hb=>(hf b hb).1⟩⟩
 done:=by
  intro X f hw g hc i aa s σ H E I hf st j;subst f hw g;obtain⟨xs,hq,hx⟩:=j;obtain⟨F,l,p,hz⟩:=I.list hq;obtain⟨q,f1,f2,r,y,f5⟩:=hf it (by simp);have hl:=l.length;exact wpAny_pyNext_list_end (I.ok.hd hc) st p.isList (by simp;omega) fun h' D=>⟨rfl,I.turned (t':=s.toks) (fun b o hb e=>D b o hb e) q f1 r y f5⟩
 self:=fun _ _ _ _ _ st h=>wpAny_pyIter_listiter st h
def Gd{P:Program}{w:World}{K:Af}{tg:Expr}(a it:Addr):Turn P w K tg (jk K a) [it] it (fun i h=>h.IsTupleIter it a i) where
 mem:=by simp
 obj:=fun i h st b hb=>by
  have e:b=it:=by simpa using hb
  subst e;obtain⟨o,e,c,d⟩:=st;exact⟨o,e,fun v z=>by rw[d] at z;cases z⟩
 keep:=fun i h h' st k=>st.at fun o e=>k it (by simp) o e
 item:=by
  intro X f hw g hc i aa s σ H E I hf st j;subst f hw g;obtain⟨xs,x,hq,hx⟩:=j;obtain⟨l,q,p,hz⟩:=I.tuple hq;obtain⟨u,hu,G⟩:=q.get hx;obtain⟨r,f1,f2,y,A,f5⟩:=hf it (by simp);refine wpAny_pyNext_tuple_item st (show s.heap.IsTuple a l.toArray from p) (x:=u) (by simpa using hu) fun h' C D=>?_;have J:Inv X aa σ H {s with heap:=h'}:=I.turned (t':=s.toks) (fun b o hb e=>(D.2 b hb).trans e) r f1 y A f5;obtain⟨o,e,c,d⟩:=id C;exact⟨u,rfl,l8 (s:={s with heap:=h'}) e c d ξ ⟨x,H,J,G,⟨rfl,fun ys hy=>by rw[I.tuple_inj hy hq];exact hx⟩,C,fun b hb=>(hf b hb).1⟩⟩
 done:=by
  intro X f hw g hc i aa s σ H E I hf st j;subst f hw g;obtain⟨xs,hq,hx⟩:=j;obtain⟨l,q,p,hz⟩:=I.tuple hq;obtain⟨r,f1,f2,y,A,f5⟩:=hf it (by simp);have hl:=q.length;exact wpAny_pyNext_tuple_end (I.ok.hd hc) st (show s.heap.IsTuple a l.toArray from p) (by simp;omega) fun h' F=>⟨rfl,I.turned (t':=s.toks) (fun b o hb e=>F b o hb e) r f1 y A f5⟩
 self:=fun _ _ _ _ _ st h=>wpAny_pyIter_tupleiter st h
def Ge{P:Program}{w:World}{K:Af}{tg:Expr}(it:Addr)(lo:Int)(n:Nat):Turn P w K tg (eN lo n) [it] it (fun i h=>IsRangeIter h it (lo+(i:Nat)*1) ((n:Int)-(i:Nat)) 1) where
 mem:=by simp
 obj:=fun i h st b hb=>by
  have e:b=it:=by simpa using hb
  subst e;exact⟨_,st,fun v z=>by
   have u:Data.fields _=Data.cell v:=z;cases u⟩
 keep:=fun i h h' st k=>k it (by simp) _ st
 item:=by
  intro X a hw c hc i aa s σ H E I hf st d;subst a hw c;obtain⟨f,f1,f2,g,j,f5⟩:=hf it (by simp);have W:=Walks.range (prog:=X.prog) (w:=X.w) (I.ok.hd hc) it lo 1 n;refine W.item i s _ _ d st fun v h' tk p l q=>?_;obtain⟨t,rfl⟩:=p;have x:Inv X aa σ H {s with heap:=h',toks:=tk}:=I.turned (fun b o hb e=>q b o (by simpa using hb) e) f f1 g j f5;refine⟨_,rfl,l8 (s:={s with heap:=h',toks:=tk}) (n:="range_iterator") l rfl rfl ξ ⟨.int (lo+i),H,x,⟨t,?_⟩,⟨rfl,rfl⟩,l,fun b hb=>(hf b hb).1⟩⟩;rw[Int.mul_one]
 done:=by
  intro X a hw c hc i aa s σ H E I hf st d;subst a hw c;obtain⟨f,f1,f2,g,j,f5⟩:=hf it (by simp);exact wpAny_pyNext_range_end (I.ok.hd hc) st (by have:n<=i:=d;omega) fun h' r=>⟨rfl,I.turned (t':=s.toks) (fun b o hb e=>r b o hb e) f f1 g j f5⟩
 self:=fun _ _ _ _ _ st h=>wpAny_pyIter_rangeiter st h
section
variable{X:Cx}{tg:Expr}
def Bq(K:Af)(tl:TE):TI:=fun σ H R=>tl σ H fun x H1=>∃a,x=.ref a/\(∃xs,SqL K H1 a xs)/\R (dn K a) H1
def uw(K:Af)(tl:TE):TI:=fun σ H R=>tl σ H fun x H1=>∃a,x=.ref a/\(∃xs,SqT K H1 a xs)/\R (jk K a) H1
def zr{l:Expr}{tl:TE}(hl:PE X l tl):PI X tg l (Bq X.K tl):=by
 intro aa s σ H R I h;refine aP (hl aa s σ H _ I h) fun v c ⟨x,H1,I1,d,f⟩=>?_;obtain⟨a,e,⟨xs,hq⟩,q⟩:=f;subst e;cases d;obtain⟨g,i,p,hz⟩:=I1.list hq;refine wpAny_pyIter_list p.isList ?_;refine⟨c⁻¹,[c⁻¹],_,_,H1,rfl,I1.kept (t':=c.toks) fun b o e=>Ad _ e,Gc a _,⟨_,Ao _ rfl,rfl,rfl⟩,fun b hb=>?_,q⟩;have e:b=c⁻¹:=by simpa using hb
 subst e;exact I1.fpOk (Ag _) (I1.hok.fresh (Ag _))
def ux{l:Expr}{tl:TE}(hl:PE X l tl):PI X tg l (uw X.K tl):=by
 intro aa s σ H R I h;refine aP (hl aa s σ H _ I h) fun v c ⟨x,H1,I1,d,f⟩=>?_;obtain⟨a,e,⟨xs,hq⟩,q⟩:=f;subst e;cases d;obtain⟨g,i,p,hz⟩:=I1.tuple hq;refine wpAny_pyIter_tuple (show c.heap.IsTuple a g.toArray from p) ?_;refine⟨c⁻¹,[c⁻¹],_,_,H1,rfl,I1.kept (t':=c.toks) fun b o e=>Ad _ e,Gd a _,⟨_,Ao _ rfl,rfl,rfl⟩,fun b hb=>?_,q⟩;have e:b=c⁻¹:=by simpa using hb
 subst e;exact I1.fpOk (Ag _) (I1.hok.fresh (Ag _))
def Br{aa:Ψ}{σ:St}{H:Hp}{s:Shared}{R:It->Hp->Prop}{E:Ω}{lo hi:Int}{t u v:Tok}{tk:Nat}(I:Inv X aa σ H s)(h1:-(2 ^ 62)<=lo)(h2:lo<2 ^ 62)(h3:-(2 ^ 62)<=hi)(a:hi<2 ^ 62)(q:R (eN lo (hi-lo).toNat) H):wpAny (model X.prog X.w) X.A (pyIter (.ref s⁻¹)) (Bp X aa σ tg R) E {s with heap:=s.heap.push {cls:=.type "range",data:=.fields #[.int lo t,.int hi u,.int 1 v]},toks:=tk}:=by
 refine wpAny_pyIter_range (IsRange.new ..) (small_one h1 h2 h3 a) ?_;have I1:Inv X aa σ H {s with heap:=s.heap.push {cls:=.type "range",data:=.fields #[.int lo t,.int hi u,.int 1 v]},toks:=tk}:=I.kept fun b o e=>Ad _ e;refine⟨(s.heap.push {cls:=.type "range",data:=.fields #[.int lo t,.int hi u,.int 1 v]}).objs.size,[(s.heap.push {cls:=.type "range",data:=.fields #[.int lo t,.int hi u,.int 1 v]}).objs.size],_,_,H,rfl,
  I1.kept (t':=tk) fun b o e=>Ad _ e,Ge _ lo (hi-lo).toNat,?_,fun b hb=>?_,q⟩
 ·have e1:lo+((0:Nat):Int)*1=lo:=by simp
  have e2:(((hi-lo).toNat:Nat):Int)-((0:Nat):Int)=Builtin.Range.rangeSize lo hi 1:=by rw[rangeSize_one];split<;>omega
  show IsRangeIter _ _ (lo+((0:Nat):Int)*1) ((((hi-lo).toNat:Nat):Int)-((0:Nat):Int)) 1;rw[e1,e2];exact Ao _ rfl
 ·have e:b=(s.heap.push {cls:=.type "range",data:=.fields #[.int lo t,.int hi u,.int 1 v]}).objs.size:=by simpa using hb
  subst e;exact I1.fpOk (Ag _) (I1.hok.fresh (Ag _))
def Gh(ta:TA):TI:=fun σ H R=>ta σ H fun vs H1=>∃j:Int,vs=[.int j]/\-(2 ^ 62)<=j/\j<2 ^ 62/\R (eN 0 j.toNat) H1
def Gj(ta:TA):TI:=fun σ H R=>ta σ H fun vs H1=>∃i j:Int,vs=[.int i,.int j]/\(-(2 ^ 62)<=i/\i<2 ^ 62/\-(2 ^ 62)<=j/\j<2 ^ 62)/\R (eN i (j-i).toNat) H1
def l'{a:Expr}{ta:TA}{p pos:Pos}(f:Gl X "range")(hm:X.mg "range"=none)(g:PA X [a] ta)(hs:starEach [a] X.env=[(false,eval a X.env)]:=by rfl):PI X tg (.Call (.Name "range" p) [a] [] pos) (Gh ta):=by
 intro aa s σ H R I h;refine Call_ (jg I f hm boot_range (PyProof.Rows.callWith_type1 (aP (g pos aa s σ H _ I h) fun us l ⟨vs,H1,i,c,b⟩=>?_) hs rfl));obtain⟨j,e,b,d,q⟩:=b;subst e;cases c with
 |cons r rr=>
  cases rr;obtain⟨t,rfl⟩:=r;exact call_range_1 (Br i ω ω b d (by simpa using q))
def uB{a b:Expr}{ta:TA}{p pos:Pos}(u:Gl X "range")(hm:X.mg "range"=none)(v:PA X [a,b] ta)(hs:starEach [a,b] X.env=[(false,eval a X.env),(false,eval b X.env)]:=by rfl)(d:starEach [b] X.env=[(false,eval b X.env)]:=by rfl):PI X tg (.Call (.Name "range" p) [a,b] [] pos) (Gj ta):=by
 intro aa s σ H R I h;refine Call_ (jg I u hm boot_range (PyProof.Rows.callWith_type1 (aP (v pos aa s σ H _ I h) fun us x ⟨vs,H1,w,f,c⟩=>?_) (by rw[hs,d]) (by rw[d];rfl)));obtain⟨i,j,e,⟨c,g,l,o⟩,q⟩:=c;subst e;cases f with
 |cons r rr=>
  cases rr with
  |cons r' rr=>
   cases rr;obtain⟨t,rfl⟩:=r;obtain⟨t',rfl⟩:=r';exact call_range_2 (Br w c g l o q)
def uC(wi:TI)(g:TG)(tb:TS):TS:=fun D σ H=>wi σ H fun J H1=>∃W:Nat->Nat->St->Hp->Prop,(∃m,W 0 m σ H1)/\∀i m σ H,W i m σ H->
 (J.stop i H/\D.nx σ H)\/(J.go i H/\∃N:St->Hp->Prop,(∀a H',N a H'->∃b,b<m/\W (i+1) b a H')/\∀x H',J.yld i H x H'->g x σ H' fun c H2=>tb {D with nx:=N,ct:=N,bk:=D.nx} c H2)
def md(fp:List Addr)(h:Heap):Ψ:=fp.filterMap fun b=>(h.get? b).map fun o=>(b,o)
def pj{fp:List Addr}{h:Heap}{b:Addr}{o:Obj}(hb:b∈fp)(e:h.get? b=some o):(b,o)∈md fp h:=List.mem_filterMap.mpr ⟨b,hb,by rw[e];rfl⟩
def Gq{fp:List Addr}{h:Heap}{p:Addr×Obj}(hp:p∈md fp h):p.1∈fp/\h.get? p.1=some p.2:=by
 obtain⟨b,hb,e⟩:=List.mem_filterMap.mp hp;cases q:h.get? b with
 |none=>rw[q] at e;cases e
 |some o=>
  rw[q] at e;have a:(b,o)=p:=Am e;subst a;exact⟨hb,q⟩
def Inv.pinned{aa:Ψ}{σ:St}{H:Hp}{s:Shared}{fp:List Addr}(I:Inv X aa σ H s)(hf:∀b∈fp,bm X aa H b)(f:∀b∈fp,∃o,s.heap.get? b=some o/\∀v,o.data≠.cell v):Inv X (aa++md fp s.heap) σ H s:=
 I.pins_of fun p hp=>(List.mem_append.mp hp).elim (fun z=>I.pin p (AQ _ z)) fun z=>by
  obtain⟨hb,e⟩:=Gq z;obtain⟨c,f1,f2,_⟩:=hf p.1 hb;obtain⟨o,a,d⟩:=f p.1 hb;rw[e] at a;cases a;exact⟨e,c,f1,f2,d⟩
def Inv.unpinned{aa a:Ψ}{σ:St}{H:Hp}{s:Shared}(I:Inv X (aa++a) σ H s):Inv X aa σ H s:=I.pins_of fun p hp=>I.pin p (AQ _ (List.mem_append_left _ hp))
def zK{iter:Expr}{body:List Stmt}{wi:TI}{g:TG}{tb:TS}{pos:Pos}(hp:PassesOwn (model X.prog X.w) X.A X.env X.xe)(hc:X.calm=true)(hi:PI X tg iter wi)(hg:PG X tg g)(hb:PSs X body tb)(hs:∀x,foldedSetIterable iter X.env x=pure x:=by intro _;rfl):PS X (.For tg iter body [] pos) (uC wi g tb):=by
 intro aa s σ H D I h;refine wpAny_For (aP (hi aa s σ H _ I h) fun v s1 h1=>aP h1 fun oy s2 h2=>?_) hs;obtain⟨it,fp,L,J,H2,e,I2,T,db,f2,W,⟨m0,w0⟩,turn⟩:=h2;subst e;have c:∀{H':Hp},(∀b∈fp,H' b=none)->∀b∈fp,bm X aa H' b:=fun hn b hb=>⟨hn b hb,(f2 b hb).2⟩;refine codeAny_forLoop_any (fun n s'=>∃i y H',Inv X aa y H' s'/\L i s'.heap/\(∀b∈fp,H' b=none)/\W i n y H') ?_ m0 ⟨0,σ,H2,I2,db,fun b hb=>(f2 b hb).1,w0⟩;rintro n M ⟨i,z,C,S,O,P,w3⟩;rcases turn i n z C w3 with ⟨stop,qn⟩|⟨go,N,hN,step⟩
 ·refine wpAny_passesOwn hp (aP (T.done X rfl rfl rfl hc i aa M z C X.xe S (c P) O stop) fun r U ⟨hr,I4⟩=>?_)
  subst hr;exact wpAny_execs_nil ⟨z,C,I4,qn⟩
 ·refine wpAny_passesOwn hp (aP (T.item X rfl rfl rfl hc i aa M z C X.xe S (c P) O go) fun r U ⟨u,hr,Y⟩=>?_)
  subst hr;refine wpAny_passesOwn hp (aP Y fun _ G ⟨x,Q,I5,r5,y5,p,E⟩=>?_);have l9:=I5.pinned (c E) (T.obj _ _ p);refine wpAny_passesOwn hp (aP (hg _ G z Q x u _ l9 r5 (step x Q y5)) fun _ s6 ⟨jR,H6,I6,q6⟩=>?_);refine wpAny_passesOwn hp (aP (hb _ s6 jR H6 _ I6 q6) fun f F l=>?_);have again:∀{a:St}{j:Hp},Inv X (aa++md fp G.heap) a j F->N a j->∃m,m<n/\∃i y H',Inv X aa y H' F/\L i F.heap/\(∀b∈fp,H' b=none)/\W i m y H':=fun{a j} I7 q=>by
   obtain⟨m',hm,w7⟩:=hN a j q;refine⟨m',hm,i+1,a,j,I7.unpinned,T.keep _ _ _ p fun b hb o e=>(I7.pin (b,o) (AQ _ (AQ _ (pj hb e)))).1,fun b hb=>?_,w7⟩;obtain⟨o,e,d⟩:=T.obj _ _ p b hb;exact(I7.pin (b,o) (AQ _ (AQ _ (pj hb e)))).2.1
  cases f with
  |next=>obtain⟨a,j,I7,q⟩:=l;exact again I7 q
  |cont=>obtain⟨a,j,I7,q⟩:=l;exact again I7 q
  |brk=>obtain⟨a,j,I7,l⟩:=l;exact⟨a,j,I7.unpinned,l⟩
  |ret v=>obtain⟨x7,a,j,I7,r7,l⟩:=l;exact⟨x7,a,j,I7.unpinned,r7,l⟩
end
def zC{K:Af}{a:Addr}{xs:List V}{g:TG}{tb:TS}{D:Ends}{σ:St}{H:Hp}(b:Nat->St->Hp->Prop)(l:b 0 σ H)(hl:∀i σ H,i<=xs.length->b i σ H->SqL K H a xs)(hs:∀i x σ H,xs[i]?=some x->b i σ H->g x σ H fun d H2=>tb {D with nx:=b (i+1),ct:=b (i+1),bk:=D.nx} d H2)(hd:∀σ H,b xs.length σ H->D.nx σ H):∃W:Nat->Nat->St->Hp->Prop,(∃m,W 0 m σ H)/\∀i m σ H,W i m σ H->
   ((dn K a).stop i H/\D.nx σ H)\/((dn K a).go i H/\∃N:St->Hp->Prop,(∀f H',N f H'->∃h,h<m/\W (i+1) h f H')/\∀x H',(dn K a).yld i H x H'->g x σ H' fun d H2=>tb {D with nx:=N,ct:=N,bk:=D.nx} d H2):=by
 refine⟨fun i m σ H=>m=xs.length-i/\i<=xs.length/\b i σ H,⟨xs.length,by simp,AL _,l⟩,?_⟩;rintro i m σ H ⟨rfl,hi,p⟩;have q:=hl i σ H hi p
 by_cases c:i<xs.length
 ·refine .inr ⟨⟨xs,xs[i],q,by simp[c]⟩,b (i+1),fun f H' j=>⟨xs.length-(i+1),ω,rfl,c,j⟩,fun x H' y=>?_⟩
  obtain⟨e,y⟩:=y;subst e;exact hs i x σ _ (y xs q) p
 ·have e:i=xs.length:=ω
  subst e;exact .inl ⟨⟨xs,q,Ag _⟩,hd σ H p⟩
def Bs{K:Af}{a:Addr}{xs:List V}{g:TG}{tb:TS}{D:Ends}{σ:St}{H:Hp}(b:Nat->St->Hp->Prop)(l:b 0 σ H)(hl:∀i σ H,i<=xs.length->b i σ H->SqT K H a xs)(hs:∀i x σ H,xs[i]?=some x->b i σ H->g x σ H fun d H2=>tb {D with nx:=b (i+1),ct:=b (i+1),bk:=D.nx} d H2)(hd:∀σ H,b xs.length σ H->D.nx σ H):∃W:Nat->Nat->St->Hp->Prop,(∃m,W 0 m σ H)/\∀i m σ H,W i m σ H->
   ((jk K a).stop i H/\D.nx σ H)\/((jk K a).go i H/\∃N:St->Hp->Prop,(∀f H',N f H'->∃h,h<m/\W (i+1) h f H')/\∀x H',(jk K a).yld i H x H'->g x σ H' fun d H2=>tb {D with nx:=N,ct:=N,bk:=D.nx} d H2):=by
 refine⟨fun i m σ H=>m=xs.length-i/\i<=xs.length/\b i σ H,⟨xs.length,by simp,AL _,l⟩,?_⟩;rintro i m σ H ⟨rfl,hi,p⟩;have q:=hl i σ H hi p
 by_cases c:i<xs.length
 ·refine .inr ⟨⟨xs,xs[i],q,by simp[c]⟩,b (i+1),fun f H' j=>⟨xs.length-(i+1),ω,rfl,c,j⟩,fun x H' y=>?_⟩
  obtain⟨e,y⟩:=y;subst e;exact hs i x σ _ (y xs q) p
 ·have e:i=xs.length:=ω
  subst e;exact .inl ⟨⟨xs,q,Ag _⟩,hd σ H p⟩
def pk{lo:Int}{n:Nat}{g:TG}{tb:TS}{D:Ends}{σ:St}{H:Hp}(b:Nat->St->Hp->Prop)(j:b 0 σ H)(hs:∀i σ H,i<n->b i σ H->g (.int (lo+i)) σ H fun c H2=>tb {D with nx:=b (i+1),ct:=b (i+1),bk:=D.nx} c H2)(hd:∀σ H,b n σ H->D.nx σ H):∃W:Nat->Nat->St->Hp->Prop,(∃m,W 0 m σ H)/\∀i m σ H,W i m σ H->
   ((eN lo n).stop i H/\D.nx σ H)\/((eN lo n).go i H/\∃N:St->Hp->Prop,(∀d H',N d H'->∃f,f<m/\W (i+1) f d H')/\∀x H',(eN lo n).yld i H x H'->g x σ H' fun c H2=>tb {D with nx:=N,ct:=N,bk:=D.nx} c H2):=by
 refine⟨fun i m σ H=>m=n-i/\i<=n/\b i σ H,⟨n,by simp,AL _,j⟩,?_⟩;rintro i m σ H ⟨rfl,hi,p⟩
 by_cases a:i<n
 ·refine .inr ⟨a,b (i+1),fun d H' h=>⟨n-(i+1),ω,rfl,a,h⟩,fun x H' y=>?_⟩
  obtain⟨e,y⟩:=y;subst e y;exact hs i σ _ a p
 ·have e:i=n:=ω
  subst e;exact .inl ⟨Ag _,hd σ H p⟩
abbrev R2:=V->V->Hp->VK->Prop
def cb(X:Cx)(f:Value->Value->Sem Value)(r:R2):Prop:=
 ∀(aa:Ψ)(s:Shared)(σ:St)(H:Hp)(x y:V)(v u:Value)(Q:VK),Inv X aa σ H s->RelV x v->RelV y u->r x y H Q->
  wpAny (model X.prog X.w) X.A (f v u) (EP X aa σ Q) X.xe s
def uE(X:Cx)(f:Value->Sem Value)(r:V->Hp->VK->Prop):Prop:=
 ∀(aa:Ψ)(s:Shared)(σ:St)(H:Hp)(x:V)(v:Value)(Q:VK),Inv X aa σ H s->RelV x v->r x H Q->
  wpAny (model X.prog X.w) X.A (f v) (EP X aa σ Q) X.xe s
def df(X:Cx)(f:Value)(r:List V->Hp->VK->Prop):Prop:=
 ∀(aa:Ψ)(s:Shared)(σ:St)(H:Hp)(xs:List V)(us:List Value)(Q:VK),Inv X aa σ H s->Vals xs us->r xs H Q->
  wpAny (model X.prog X.w) X.A (call f us) (EP X aa σ Q) X.xe s
def cr(r:R2)(ta tb:TE):TE:=fun σ H Q=>ta σ H fun x H1=>tb σ H1 fun y H2=>r x y H2 Q
def Gs(r:V->Hp->VK->Prop)(ta:TE):TE:=fun σ H Q=>ta σ H fun x H1=>r x H1 Q
def rI(C:Int->Int->Prop)(g:Int->Int->V):R2:=fun x y H Q=>∃i j,x=.int i/\y=.int j/\C i j/\Q (g i j) H
def fX(g:Int->Int->V):R2:=fun x y H Q=>∃i j,x=.int i/\y=.int j/\Q (g i j) H
def rU(g:Int->V):V->Hp->VK->Prop:=fun x H Q=>∃i,x=.int i/\Q (g i) H
section
variable{X:Cx}{a b c:Expr}{ta tb tc:TE}{pos:Pos}
def jm(o:PE X a ta)(hb:PE X b tb){aa:Ψ}{s:Shared}{σ:St}{H:Hp}{R:V->V->Hp->Prop}(I:Inv X aa σ H s)(h:ta σ H fun x H1=>tb σ H1 fun y H2=>R x y H2){Q:Ω}{f:Value->Value->Sem Value}(hf:∀v u c x y H2,Inv X aa σ H2 c->RelV x v->RelV y u->R x y H2->wpAny (model X.prog X.w) X.A (f v u) Q X.xe c):wpAny (model X.prog X.w) X.A (eval a X.env) (fun v d=>wpAny (model X.prog X.w) X.A (eval b X.env) (fun u s₂=>wpAny (model X.prog X.w) X.A (f v u) Q X.xe s₂) X.xe d) X.xe s:=by
 refine aP (o aa s σ H _ I h) fun v e ⟨x,H1,p,g,i⟩=>?_;refine aP (hb aa e σ H1 _ p i) fun u c ⟨y,H2,q,j,l⟩=>?_;exact hf v u c x y H2 q g j l
def zx{op:Operator}{r:R2}(f:cb X (binaryOp op) r)(g:PE X a ta)(hb:PE X b tb):PE X (.BinOp a op b pos) (cr r ta tb):=by
 intro aa s σ H Q I h;exact wpAny_BinOp (jm g hb I h fun v u c x y H2 i d e q=>f aa c σ H2 x y v u Q i d e q)
def Gu{op:UnaryOp}{r:V->Hp->VK->Prop}(e:uE X (unaryOp op) r)(f:PE X a ta):PE X (.UnaryOp op a pos) (Gs r ta):=by
 intro aa s σ H Q I h;exact UnaryOp_ (aP (f aa s σ H _ I h) fun v b ⟨x,H1,g,c,d⟩=>e aa b σ H1 x v Q g c d)
def pl{f:Value->Value->Sem Value}{C:Int->Int->Prop}{g:Int->Int->Int}(rule:∀(i j:Int)(t u:Tok)(s:Shared)(Q:Ω)(E:Ω),C i j->Q (.int (g i j) s.toks) {s with toks:=s.toks+1}->wpAny (model X.prog X.w) X.A (f (.int i t) (.int j u)) Q E s):cb X f (rI C fun i j=>.int (g i j)):=by
 intro aa s σ H x y v u Q I a b h;obtain⟨i,j,rfl,rfl,hc,q⟩:=h;obtain⟨t,rfl⟩:=a;obtain⟨t',rfl⟩:=b;exact rule i j t t' s _ _ hc ⟨.int (g i j),H,I.tok _,⟨_,rfl⟩,q⟩
def mh{f:Value->Value->Sem Value}{g:Int->Int->Int}(rule:∀(i j:Int)(t u:Tok)(s:Shared)(Q:Ω)(E:Ω),Q (.int (g i j) s.toks) {s with toks:=s.toks+1}->wpAny (model X.prog X.w) X.A (f (.int i t) (.int j u)) Q E s):cb X f (fX fun i j=>.int (g i j)):=by
 intro aa s σ H x y v u Q I a b h;obtain⟨i,j,rfl,rfl,q⟩:=h;obtain⟨t,rfl⟩:=a;obtain⟨t',rfl⟩:=b;exact rule i j t t' s _ _ ⟨.int (g i j),H,I.tok _,⟨_,rfl⟩,q⟩
def h_{f:Value->Value->Sem Value}{g:Int->Int->Bool}(rule:∀(i j:Int)(t u:Tok)(s:Shared)(Q:Ω)(E:Ω),Q (.bool (g i j)) s->wpAny (model X.prog X.w) X.A (f (.int i t) (.int j u)) Q E s):cb X f (fX fun i j=>.bl (g i j)):=by
 intro aa s σ H x y v u Q I a b h;obtain⟨i,j,rfl,rfl,q⟩:=h;obtain⟨t,rfl⟩:=a;obtain⟨t',rfl⟩:=b;exact rule i j t t' s _ _ ⟨.bl (g i j),H,I,rfl,q⟩
def uL(i j:Int):Prop:=0<j/\j<1073741824
def mj(i j:Int):Prop:=0<=j/\j<=1000000/\i.natAbs<2 ^ 64
def CMul(i j:Int):Prop:=(-(2 ^ 64)<i/\i<2 ^ 64)\/(-(2 ^ 64)<j/\j<2 ^ 64)
def CMul.ok{i j:Int}(h:CMul i j):IntMulOk i j:=by
 rcases h with ⟨h1,h2⟩|⟨h1,h2⟩
 ·exact .of_left (intBits_le_64 h1 h2)
 ·exact .of_right (intBits_le_64 h1 h2)
def eR:cb X (binaryOp .Add) (fX fun i j=>.int (i+j)):=mh fun _ _ _ _ _ _ _ q=>add_int q
def jn:cb X (binaryOp .Sub) (fX fun i j=>.int (i-j)):=mh fun _ _ _ _ _ _ _ q=>sub_int q
def gS:cb X (binaryOp .Mult) (rI CMul fun i j=>.int (i*j)):=pl fun _ _ _ _ _ _ _ hc q=>mul_int q hc.ok
def Bu:cb X (binaryOp .FloorDiv) (rI uL fun i j=>.int (i / j)):=pl fun i j _ _ _ _ _ hc q=>by
 have h1:(0:Int)<j:=hc.1;have h2:j<1073741824:=hc.2;exact floordiv_int ω (by rw[Int.fdiv_eq_ediv_of_nonneg i ω];exact q) (.inl (PyProof.noPylong_small ω))
def fH:cb X (binaryOp .Mod) (rI (fun _ j=>0<j) fun i j=>.int (i%j)):=pl fun i j _ _ _ _ _ hc q=>by
 have h1:(0:Int)<j:=hc;exact mod_int' ω (by rw[Int.fmod_eq_emod_of_nonneg i ω];exact q)
def uN:cb X (binaryOp .Pow) (rI mj fun i j=>.int (i ^ j.toNat)):=pl fun _ _ _ _ _ _ _ hc q=>pow_int_small hc.1 hc.2.1 hc.2.2 q
def Gv{f:Value->Sem Value}{g:Int->Int}(rule:∀(i:Int)(t:Tok)(s:Shared)(Q:Ω)(E:Ω),Q (.int (g i) s.toks) {s with toks:=s.toks+1}->wpAny (model X.prog X.w) X.A (f (.int i t)) Q E s):uE X f (rU fun i=>.int (g i)):=by
 intro aa s σ H x v Q I a h;obtain⟨i,rfl,q⟩:=h;obtain⟨t,rfl⟩:=a;exact rule i t s _ _ ⟨.int (g i),H,I.tok _,⟨_,rfl⟩,q⟩
def Gw:uE X (unaryOp .USub) (rU fun i=>.int (-i)):=Gv fun _ _ _ _ _ q=>neg_int q
end
def mm:V->V->Bool
 |.non,.non=>true|.non,.int _=>true|.int _,.non=>true|.non,.bl _=>true|.bl _,.non=>true|.non,.str _=>true|.str _,.non=>true
 |.int _,.int _=>true|.bl _,.bl _=>true|.str _,.str _=>true|.byt _,.byt _=>true
 |.int _,.str _=>true|.str _,.int _=>true|.bl _,.str _=>true|.str _,.bl _=>true
 |_,_=>false
def pu:R2:=fun x y H Q=>mm x y=true/\Q (.bl (decide (x=y))) H
def uO:R2:=fun x y H Q=>mm x y=true/\Q (.bl (!decide (x=y))) H
def Bv{i j:Int}:decide (V.int i=V.int j)=(i==j):=by
 rw[Bool.eq_iff_iff];simp
def fZ{i j:Bool}:decide (V.bl i=V.bl j)=(i==j):=by
 rw[Bool.eq_iff_iff];simp
def Bw{i j:Str}:decide (V.str i=V.str j)=(i==j):=by
 rw[Bool.eq_iff_iff];simp
def Bx{i j:Array UInt8}:decide (V.byt i=V.byt j)=(i.toList==j.toList):=by
 rw[Bool.eq_iff_iff];cases i;cases j;simp
section
variable{X:Cx}{a b c:Expr}{ta tb tc:TE}{pos:Pos}
def ax{aa:Ψ}{σ:St}{H:Hp}{s:Shared}{Q:VK}{k a:Bool}(I:Inv X aa σ H s)(q:Q (.bl k) H)(e:k=a):EP X aa σ Q (.bool a) s:=by
 subst e;exact⟨.bl k,H,I,rfl,q⟩
def gU:cb X (compareOp .Eq) pu:=by
 intro aa s σ H x y v u Q I b a h;obtain⟨hs,q⟩:=h;cases x with
 |non=>
  cases b;cases y with
  |non=>cases a;exact PySem.EqNone.eq_none_none (ax I q (by simp))
  |bl j=>cases a;exact PySem.EqNone.eq_none_bool (ax I q (by simp))
  |int j=>obtain⟨t',rfl⟩:=a;exact PySem.EqNone.eq_none_int (ax I q (by simp))
  |str j=>obtain⟨t',rfl⟩:=a;exact PySem.EqNone.eq_none_str (ax I q (by simp))
  |_=>exact absurd (show false=true from hs) At
 |bl i=>
  cases b;cases y with
  |non=>cases a;exact PySem.EqNone.eq_bool_none (ax I q (by simp))
  |bl j=>cases a;exact eq_bool (ax I q fZ)
  |str j=>obtain⟨t',rfl⟩:=a;exact PySem.EqMixed.eq_bool_str (ax I q (by simp))
  |_=>exact absurd (show false=true from hs) At
 |int i=>
  obtain⟨t,rfl⟩:=b;cases y with
  |non=>cases a;exact PySem.EqNone.eq_int_none (ax I q (by simp))
  |int j=>obtain⟨t',rfl⟩:=a;exact eq_int (ax I q Bv)
  |str j=>obtain⟨t',rfl⟩:=a;exact PySem.EqMixed.eq_int_str (ax I q (by simp))
  |_=>exact absurd (show false=true from hs) At
 |str i=>
  obtain⟨t,rfl⟩:=b;cases y with
  |non=>cases a;exact PySem.EqNone.eq_str_none (ax I q (by simp))
  |bl j=>cases a;exact PySem.EqMixed.eq_str_bool (ax I q (by simp))
  |int j=>obtain⟨t',rfl⟩:=a;exact PySem.EqMixed.eq_str_int (ax I q (by simp))
  |str j=>obtain⟨t',rfl⟩:=a;exact eq_str (ax I q Bw)
  |_=>exact absurd (show false=true from hs) At
 |byt i=>
  obtain⟨t,rfl⟩:=b;cases y with
  |byt j=>obtain⟨t',rfl⟩:=a;exact PySem.W.eq_bytes (ax I q Bx)
  |_=>exact absurd (show false=true from hs) At
 |_=>cases y<;>exact absurd (show false=true from hs) At
def kI:cb X (compareOp .NotEq) uO:=by
 intro aa s σ H x y v u Q I b a h;obtain⟨hs,q⟩:=h;cases x with
 |non=>
  cases b;cases y with
  |non=>cases a;exact PySem.EqNone.ne_none_none (ax I q (by simp))
  |bl j=>cases a;exact PySem.EqNone.ne_none_bool (ax I q (by simp))
  |int j=>obtain⟨t',rfl⟩:=a;exact PySem.EqNone.ne_none_int (ax I q (by simp))
  |str j=>obtain⟨t',rfl⟩:=a;exact PySem.EqNone.ne_none_str (ax I q (by simp))
  |_=>exact absurd (show false=true from hs) At
 |bl i=>
  cases b;cases y with
  |non=>cases a;exact PySem.EqNone.ne_bool_none (ax I q (by simp))
  |bl j=>cases a;exact ne_bool (ax I q (congrArg not fZ))
  |str j=>obtain⟨t',rfl⟩:=a;exact PySem.EqMixed.ne_bool_str (ax I q (by simp))
  |_=>exact absurd (show false=true from hs) At
 |int i=>
  obtain⟨t,rfl⟩:=b;cases y with
  |non=>cases a;exact PySem.EqNone.ne_int_none (ax I q (by simp))
  |int j=>obtain⟨t',rfl⟩:=a;exact ne_int (ax I q (congrArg not Bv))
  |str j=>obtain⟨t',rfl⟩:=a;exact PySem.EqMixed.ne_int_str (ax I q (by simp))
  |_=>exact absurd (show false=true from hs) At
 |str i=>
  obtain⟨t,rfl⟩:=b;cases y with
  |non=>cases a;exact PySem.EqNone.ne_str_none (ax I q (by simp))
  |bl j=>cases a;exact PySem.EqMixed.ne_str_bool (ax I q (by simp))
  |int j=>obtain⟨t',rfl⟩:=a;exact PySem.EqMixed.ne_str_int (ax I q (by simp))
  |str j=>obtain⟨t',rfl⟩:=a;exact ne_str (ax I q (congrArg not Bw))
  |_=>exact absurd (show false=true from hs) At
 |byt i=>
  obtain⟨t,rfl⟩:=b;cases y with
  |byt j=>obtain⟨t',rfl⟩:=a;exact PySem.W.ne_bytes (ax I q (congrArg not Bx))
  |_=>exact absurd (show false=true from hs) At
 |_=>cases y<;>exact absurd (show false=true from hs) At
def pw:cb X (compareOp .Lt) (fX fun i j=>.bl (decide (i<j))):=h_ fun _ _ _ _ _ _ _ q=>lt_int q
def uS:cb X (compareOp .LtE) (fX fun i j=>.bl (decide (i<=j))):=h_ fun _ _ _ _ _ _ _ q=>le_int q
def uW:cb X (compareOp .Gt) (fX fun i j=>.bl (decide (j<i))):=h_ fun _ _ _ _ _ _ _ q=>gt_int q
def Gx:cb X (compareOp .GtE) (fX fun i j=>.bl (decide (j<=i))):=h_ fun _ _ _ _ _ _ _ q=>ge_int q
def ao(b:Expr){op:CmpOp}(h:op≠.In:=by decide)(h2:op≠.NotIn:=by decide):behindInMarks op b=false:=by
 have e1:(op==CmpOp.In)=false:=by cases op<;>first|rfl|exact absurd rfl h
 have e2:(op==CmpOp.NotIn)=false:=by cases op<;>first|rfl|exact absurd rfl h2
 cases b<;>simp[behindInMarks,e1,e2]
def Bz{op:CmpOp}{r:R2}(f:cb X (compareOp op) r)(g:PE X a ta)(hb:PE X b tb)(hm:behindInMarks op b=false):PE X (.Compare a [op] [b] pos) (cr r ta tb):=by
 intro aa s σ H Q I h;exact wpAny_Compare1 (jm g hb I h fun v u c x y H2 i d e q=>f aa c σ H2 x y v u Q i d e q) hm
def gX(t:TE):TT:=fun σ H Q=>t σ H fun x H'=>∃k,x=.bl k/\Q k H'
def zt{op:CmpOp}{r:R2}(q:cb X (compareOp op) r)(w:PE X a ta)(hb:PE X b tb)(hm:behindInMarks op b=false):PT X (.Compare a [op] [b] pos) (gX (cr r ta tb)):=by
 intro aa s σ H Q I h;refine wpAny_isTrue_Compare1 (aP (w aa s σ H _ I h) fun v d ⟨x,H1,A,f,g⟩=>aP (hb aa d σ H1 _ A g) fun u i ⟨y,H2,C,j,l⟩=>
  aP (q aa i σ H2 x y v u _ C f j l) fun c F ⟨z,D,E,o,k,e,p⟩=>?_) hm
 subst e;cases o;exact wpAny_truthy_bool ⟨D,E,p⟩
def Gy(r c:R2)(ta tb tc:TE):TE:=fun σ H Q=>ta σ H fun x H1=>tb σ H1 fun y H2=>r x y H2 fun z a=>∃k,z=.bl k/\
 (if k=true then tc σ a fun b d=>c y b d Q else Q (.bl false) a)
def Gz{op f:CmpOp}{r l:R2}(U:cb X (compareOp op) r)(g:cb X (compareOp f) l)(W:PE X a ta)(hb:PE X b tb)(hc:PE X c tc)(hm:lastMarks [op,f] [b,c]=false:=by with_unfolding_all rfl):PT X (.Compare a [op,f] [b,c] pos) (gX (Gy r l ta tb tc)):=by
 intro aa s σ H Q I h;refine isTrue_chain (aP (W aa s σ H _ I h) fun v q ⟨x,H1,Y,w,A⟩=>test_link (aP (hb aa q σ H1 _ Y A) fun u C ⟨y,H2,I2,i,D⟩=>
  aP (U aa C σ H2 x y v u _ I2 w i D) fun d E ⟨z,o,p,F,k,e,j⟩=>?_)) hm
 subst e;cases F;refine wpAny_truthy_bool ?_;cases k with
 |false=>
  obtain⟨k',S,T⟩:=j;cases S;exact ite_ff ⟨o,p,T⟩
 |true=>
  refine ite_tt (test_last (aP (hc aa E σ o _ p j) fun G J ⟨L,H4,I4,M,N⟩=>aP (g aa J σ H4 y L u G _ I4 i M N) fun d' s5 ⟨z2,H5,I5,O,k2,e2,P⟩=>?_));subst e2;cases O;exact wpAny_truthy_bool ⟨H5,I5,P⟩
def cI:(sizeLine:Nat)<2 ^ 63:=by rw[sizeLine_eq];decide
def vals1{x:V}{us:List Value}(r:Vals [x] us):∃u,us=[u]/\RelV x u:=by
 cases r with
 |cons r1 r2=>cases r2;exact⟨_,rfl,r1⟩
def vals2{x y:V}{us:List Value}(r:Vals [x,y] us):∃u a,us=[u,a]/\RelV x u/\RelV y a:=by
 cases r with
 |cons r1 r2=>
  cases r2 with
  |cons r3 r4=>cases r4;exact⟨_,_,rfl,r1,r3⟩
def uY(K:Af)(x:V)(H:Hp)(n:Nat):Prop:=
 match x with
 |.str y=>y.length<=sizeLine/\n=y.length
 |.byt y=>y.size<=sizeLine/\n=y.size
 |.ref p=>(∃xs,SqL K H p xs/\n=xs.length)\/∃xs,SqT K H p xs/\n=xs.length
 |_=>False
def BB:df X (.builtin "len") (fun xs H Q=>∃x n,xs=[x]/\uY X.K x H n/\Q (.int n) H):=by
 intro aa s σ H xs us Q I r h;obtain⟨x,n,rfl,e,q⟩:=h;obtain⟨u,rfl,c⟩:=vals1 r;have hl:=cI;have hs:sizeLine=16777216:=sizeLine_eq;cases x with
 |str y=>
  obtain⟨t,rfl⟩:=c;obtain⟨hy,b⟩:y.length<=sizeLine/\n=y.length:=e;subst b;exact len_str ω ⟨.int _,H,I.tok _,⟨_,rfl⟩,q⟩
 |byt y=>
  obtain⟨t,rfl⟩:=c;obtain⟨hy,b⟩:y.size<=sizeLine/\n=y.size:=e;subst b;exact PySem.W.len_bytes ω ⟨.int _,H,I.tok _,⟨_,rfl⟩,q⟩
 |ref p=>
  cases c;have b:(∃xs,SqL X.K H p xs/\n=xs.length)\/∃xs,SqT X.K H p xs/\n=xs.length:=e;rcases b with ⟨xs,hx,b⟩|⟨xs,hx,b⟩
  ·subst b
   obtain⟨g,d,f,hz⟩:=I.list hx;have a:=d.length;exact Calls.call_len_list f.isList (by simp only[Aj];omega) ⟨.int xs.length,H,I.tok _,⟨_,by simp only[Aj];rw[a]⟩,q⟩
  ·subst b
   obtain⟨g,d,f,hz⟩:=I.tuple hx;have a:=d.length;exact len_tuple f (by simp only[Aj];omega) ⟨.int xs.length,H,I.tok _,⟨_,by simp only[Aj];rw[a]⟩,q⟩
 |_=>exact(show False from e).elim
end
structure ObjM(h:Heap)(x dx C:Addr)(mA:Str->Option Value):Prop where
 obj:h.get? x=some (PySem.W.instObj C dx)
 ns:h.Ns1 dx mA
 ne:dx≠x
def GA{h:Heap}{dx:Addr}{mA:Str->Option Value}(n:h.Ns1 dx mA):∃b,h.get? dx=some b/\∀name,PySem.W.lookIn name b=some (mA name):=by
 obtain⟨o,es,ep,c,hd,hk,_,hm⟩:=n;refine⟨o,c,fun name=>?_⟩;have e:=hm name;unfold nsFind findBy at e;rw[<-Array.find?_toList] at e;unfold PySem.W.lookIn;rw[hd];dsimp only;split
 ·rename_i y q
  rw[q] at e;exact congrArg some e
 ·rename_i q
  rw[q] at e;have a:es.toList.any (·.refKey)=false:=by
   rw[List.any_eq_false];intro y hy;obtain⟨z,t,d⟩:=hk y (Array.mem_toList_iff.mp hy);simp[DictEntry.refKey,d]
  have f:¬es.toList.any (·.refKey)=true:=by rw[a];exact At
  rw[if_neg f];exact congrArg some e
def ObjM.look{h:Heap}{x dx C:Addr}{mA:Str->Option Value}(I:ObjM h x dx C mA):∃a,PySem.W.InstAt h x (PySem.W.instObj C dx) C (some a)/\∀name,PySem.W.lookIn name a=some (mA name):=
 let ⟨a,ho,hl⟩:=GA I.ns
 ⟨a,⟨I.obj,rfl,rfl,ho⟩,hl⟩
section
variable{prog:Program}{w:World}{A:Around}{E:Ω}{s:Shared}{K:Af}{x dx C f:Addr}{mA:Str->Option Value}{name:Str}{v:Value}
def u0{a:Bool}{Q:Ω}(X:K.In s.heap)(I:ObjM s.heap x dx C mA)(b:PySem.W.plainGet K C name=true)(hh:PySem.W.hasDictIn K C=true)(c:PySem.W.findIn K (.ref C) name=some none)(d:mA name=some v)(e:PySem.W.handedIn v=true)(h:Q v {s with toks:=s.toks+1}):wpAny (model prog w) A (getAttr (.ref x) name a) Q E s:=by
 obtain⟨f,J,hl⟩:=I.look;exact PySem.W.get_value X J (PySem.W.plainGet_of b).1 (PySem.W.findObj_own hh c rfl (by rw[hl,d])) e h
end
def RelO.some_of{v:V}{o:Option Value}(r:RelO (some v) o):∃u,o=some u/\RelV v u:=by
 cases o with
 |none=>exact(show False from r).elim
 |some u=>exact⟨u,rfl,r⟩
def RelO.none_of{o:Option Value}(r:RelO none o):o=none:=by
 cases o with
 |none=>rfl
 |some u=>exact(show False from r).elim
section
variable{P:Program}{w:World}{H H':Hp}{h h':Heap}{a C dx:Addr}{fs nz:List (Str×V)}
def eS(b:HOk P w H h)(e:H a=some (.ins C dx fs)):∃mA,ObjM h a dx C mA/\(∀f,RelO (fs.lookup f) (mA f))/\PySem.Within mA (fs.map (·.1))/\fs.length<=1000/\H dx=some (.own a):=by
 obtain⟨d,z,ne,ob,mA,n,r,q⟩:=(show zJ P w H h a (.ins C dx fs) from b a _ e);exact⟨mA,⟨ob,n,ne⟩,r,q,z,d⟩
end
structure Cls(K:Af)(C:Addr):Prop where
 pg:PySem.W.plainGet K C Str.empty=true
 hd:PySem.W.hasDictIn K C=true
 po:PySem.W.plainOver K C=true
 sa:PySem.W.findIn K (.ref C) "__setattr__"=some (some (.builtin "object.__setattr__"))
def Cls.get{K:Af}{C:Addr}(c:Cls K C)(f:Str):PySem.W.plainGet K C f=true:=c.pg
structure Room(k:Nat)(A:Around):Prop where
 hd:A.handled=none
 dp:A.depth+3*k+5<recursionLimit
 un:A.units+16*k+200<cLine
def Room.mono{j k:Nat}{A:Around}(r:Room k A)(h:j<=k):Room j A:=⟨r.hd,by have:=r.dp;omega,by have:=r.un;omega⟩
def Room.deeper{k:Nat}{A:Around}(r:Room (k+1) A)(env:Env):Room k (A.deeper env):=
 ⟨r.hd,by have:=r.dp;show A.depth+1+3*k+5<_;omega,by have:=r.un;show A.units+3+16*k+200<_;omega⟩
def Room.in1{k:Nat}{A:Around}(r:Room (k+1) A):Room k A.in1:=
 ⟨r.hd,by have:=r.dp;show A.depth+3*k+5<_;omega,by have:=r.un;show A.units+1+16*k+200<_;omega⟩
def Room.depth{k:Nat}{A:Around}(r:Room k A):A.depth<recursionLimit:=by have:=r.dp;omega
def Room.units{k:Nat}{A:Around}(r:Room k A):A.units+64<cLine:=by have:=r.un;omega
def bB:TA:=fun _ H Q=>Q [] H
def cD(ta:TE)(a:TA):TA:=fun σ H Q=>ta σ H fun x H1=>a σ H1 fun xs H2=>Q (x::xs) H2
section
variable{X:Cx}{e:Expr}{es:List Expr}{te:TE}{t:TA}{pos:Pos}
def zc:PA X [] bB:=fun _ _ _ _ H Q I h=>Calls.spliced_nil ⟨[],H,I,.nil,h⟩
def zb(g:PE X e te)(hr:PA X es t)(hs:starEach (e::es) X.env=(false,eval e X.env)::starEach es X.env:=by rfl):PA X (e::es) (cD te t):=by
 intro pos aa s σ H Q I h;rw[hs];show wpAny _ _ (spliced ((false,eval e X.env)::backTo pos (starEach es X.env))) _ _ s;refine Calls.spliced_cons (aP (g aa s σ H _ I h) fun u a ⟨x,H1,i,b,c⟩=>?_);exact aP (hr pos aa a σ H1 _ i c) fun us l ⟨xs,H2,j,d,f⟩=>⟨x::xs,H2,j,.cons b d,f⟩
def c5(t:TA):TE:=fun σ H Q=>t σ H fun xs H1=>xs.length<=sizeLine/\∀p,H1 p=none->Q (.ref p) (upd H1 p (.tup xs))
def mq(t:TA):TE:=fun σ H Q=>t σ H fun xs H1=>xs.length<=sizeLine/\∀p,H1 p=none->Q (.ref p) (upd H1 p (.lst xs))
def ei{x1}(h:PA X es t):PE X (.Tuple es x1 pos) (c5 t):=by
 intro aa s σ H Q I hq;refine wpAny_Tuple_spliced (aP (h pos aa s σ H _ I hq) fun us a ⟨xs,H1,I1,r,z,q⟩=>⟨by rw[<-r.length];exact z,?_⟩);have hf:H1 a⁻¹=none:=I1.hok.fresh (Ag _);refine⟨.ref a⁻¹,upd H1 a⁻¹ (.tup xs),I1.laid (t':=a.toks) (fun b u e=>Ad _ e) (Ag _) ?_,rfl,q _ hf⟩;exact⟨z,us,r,⟨_,Ao _ rfl,rfl,_,rfl⟩⟩
def z0(h:PA X es t):PE X (.List es pos) (mq t):=by
 intro aa s σ H Q I hq;refine wpAny_List_spliced (aP (h pos aa s σ H _ I hq) fun us a ⟨xs,H1,I1,r,z,q⟩=>⟨by rw[<-r.length];exact z,?_⟩);have hf:H1 a⁻¹=none:=I1.hok.fresh (Ag _);refine⟨.ref a⁻¹,upd H1 a⁻¹ (.lst xs),I1.laid (t':=a.toks) (fun b u e=>Ad _ e) (Ag _) ?_,rfl,q _ hf⟩;exact⟨z,us,0,r,Ao _ rfl⟩
end
abbrev Sp:=List V->Hp->VK->XK->Prop
abbrev eu:=List Env->Hp->Shared->XK->Ω
structure Env0(P:Program)(w:World)(K:Af)(mg:Str->Option Value)(base:Heap)(A:Around)(outer:List Env)(s:Shared)(H:Hp):Prop where
 frames:A.frames=some outer
 mod:Mod K mg base
 bs:∀b o,base.get? b=some o->s.heap.get? b=some o/\H b=none
 bsz:base.objs.size<=s⁻¹
 funs:s.heap.FunFrames base outer
 frf:∀b∈frs outer,H b=none
 hok:HOk P w H s.heap
 bare:AllBare s.gens
def CE(outer:List Env)(P:Program)(w:World)(H:Hp)(s:Shared)(Q:VK)(u:Value)(s':Shared):Prop:=
 ∃v H',s'.os=s.os/\AllBare s'.gens/\Un (frs outer) [] H H' s.heap s'.heap/\HOk P w H' s'.heap/\RelV v u/\Q v H'
def CR(CX:eu)(outer:List Env)(P:Program)(w:World)(H:Hp)(s:Shared)(Q:VK)(E:XK)(r:Result)(s':Shared):Prop:=
 match r with
 |.ok (.ret u)=>CE outer P w H s Q u s'
 |.ok _=>False
 |.error e=>CX outer H s E e s'
structure FnOk(P:Program)(w:World)(K:Af)(mg:Str->Option Value)(base:Heap)(CX:eu)(k:Nat)(f:Addr)(fd:FuncData)(ps:List Str)(sp:Sp):Prop where
 len:∀vs H Q E,sp vs H Q E->vs.length=ps.length
 run:∀(A:Around)(outer:List Env)(s:Shared)(H:Hp)(args:Args)(us:List Value)(vs:List V)(Q:VK)(E:XK),Room k A->Env0 P w K mg base A outer s H->BindsTo s fd args (ps.zip us)->Vals vs us->sp vs H Q E->
  codeAny (model P w) A (.call (.ref f) args) (CR CX outer P w H s Q E) s
def Env0.in1{P:Program}{w:World}{K:Af}{mg:Str->Option Value}{base:Heap}{A:Around}{outer:List Env}{s:Shared}{H:Hp}(e:Env0 P w K mg base A outer s H):Env0 P w K mg base A.in1 outer s H:=⟨e.frames,e.mod,e.bs,e.bsz,e.funs,e.frf,e.hok,e.bare⟩
section
variable{X:Cx}{aa:Ψ}{σ:St}{H:Hp}{s s':Shared}
def Inv.env0(I:Inv X aa σ H s):Env0 X.prog X.w X.K X.mg X.base X.A X.stack s H:=
 ⟨I.ok.frames,I.ok.mod,I.bs,AD I.ok.bsz I.sz,I.stack,I.stkFree,I.hok,I.bare⟩
def Inv.after{Q:VK}{u:Value}(I:Inv X aa σ H s)(h:CE X.stack X.prog X.w H s Q u s'):EP X aa σ Q u s':=by
 obtain⟨v,H',os,a,un,c,r,q⟩:=h;obtain⟨hh,g,d,t,e⟩:=s';obtain rfl:e=s.os:=os;exact⟨v,H',I.call (h':=hh) (g':=g) (d':=d) (t':=t) (ch:=[]) un c a (fun b z=>absurd z (by simp)),r,q⟩
end
def pC(sp:Sp)(fB:List V)(E:XK)(t:TA):TE:=fun σ H Q=>t σ H fun vs H1=>sp (vs++fB) H1 Q E
def Binds(K:Af)(fd:FuncData)(ps:List Str)(ds:List Value):Prop:=
 ∀(s:Shared)(us:List Value),K.In s.heap->(us++ds).length=ps.length->BindsTo s fd ⟨us,[]⟩ (ps.zip (us++ds))
def Binds.all{K:Af}{fd:FuncData}{ps:List Str}(h:∀us:List Value,us.length=ps.length->bindArgs fd ⟨us,[]⟩=pure (ps.zip us)):Binds K fd ps []:=fun s us _ hl=>by
 rw[AN] at hl ⊢;exact .of_eq (h us hl)
def dq(CX:eu)(X:Cx)(E:XK):Prop:=∀(aa:Ψ)(σ:St)(H:Hp)(s:Shared)(e:Value)(s':Shared),Inv X aa σ H s->CX X.stack H s E e s'->X.xe e s'
section
variable{X:Cx}{CX:eu}{k:Nat}{f C:Addr}{fd:FuncData}{ps:List Str}{sp:Sp}{fB:List V}{ds:List Value}{E:XK}{x m:Str}{p pos a_:Pos}{e o:Expr}{es:List Expr}{ta:TE}{t:TA}
def GB{aa:Ψ}{σ:St}{H:Hp}{s:Shared}{Q:VK}{us:List Value}{vs:List V}(F:FnOk X.prog X.w X.K X.mg X.base CX k f fd ps sp)(hr:Room k X.A)(hb:Binds X.K fd ps ds)(hd:Vals fB ds)(hx:dq CX X E)(I:Inv X aa σ H s)(r:Vals vs us)(h:sp (vs++fB) H Q E):wpAny (model X.prog X.w) X.A (call (.ref f) us) (EP X aa σ Q) X.xe s:=by
 have a:Vals (vs++fB) (us++ds):=r.append hd;have hl:(us++ds).length=ps.length:=by rw[<-a.length];exact F.len _ _ _ _ h
 refine wpAny_call (codeAny_mono (F.run X.A X.stack s H ⟨us,[]⟩ (us++ds) (vs++fB) Q E hr I.env0 (hb s us I.kIn hl) a h) fun r s' hq=>?_);cases r with
 |error e=>exact hx aa σ H s e s' I hq
 |ok fl=>
  cases fl with
  |ret u=>exact I.after hq
  |next=>exact False.elim hq
  |brk=>exact False.elim hq
  |cont=>exact False.elim hq
def zn(F:FnOk X.prog X.w X.K X.mg X.base CX k f fd ps sp)(hr:Room k X.A)(b:Gl X x)(hm:X.mg x=some (.ref f))(hk:PySem.W.keepIn X.K (.ref f)=true)(hb:Binds X.K fd ps ds)(hd:Vals fB ds)(hx:dq CX X E)(c:PA X (e::es) t)(d:(x==("__debug__":Str))=false:=by decide)(he:starEach (e::es) X.env=(false,eval e X.env)::starEach es X.env:=by rfl)(a:(backTo pos (starEach es X.env)).any (·.1)=false:=by rfl):PE X (.Call (.Name x p) (e::es) [] pos) (pC sp fB E t):=by
 intro aa s σ H Q I h;refine wpAny_Call_Name_kw (tI I b hm ?_ d);refine PySem.W.callWith_K (h₀:=X.base) I.ok.mod.kin hk (aP (c pos aa s σ H _ I h) fun us g ⟨vs,H1,I1,r,q⟩=>⟨I1.kIn,?_⟩) he a;exact GB F hr hb hd hx I1 r q
end
structure zq(N P:List Str)(sc:Scope):Prop where
 kind:sc.kind=.function
 co:sc.isCoroutine=false
 gen:sc.isGenerator=false
 nd:N.Nodup
 pre:N.take P.length=P
 par:∀x∈P,sc.names.lookup x=some .local\/sc.names.lookup x=some .cell
 nofree:∀y∈sc.names,y.2≠.free
def BC{kindOf:Str->Option NameKind}{x:Str}:∀{binds:List (Str×Value)}{m:Str->Option Value},(∀v,(x,v)∉binds)->bindL kindOf binds m x=m x
 |[],_,_=>rfl
 |(n,v)::r,m,h=>by
  unfold bindL;rw[BC fun w hw=>h w (Aq _ hw)];split
  ·have:x≠n:=by rintro rfl;exact h v As
   simp[this]
  ·rfl
def BD{kindOf:Str->Option NameKind}{x:Str}:∀{binds:List (Str×Value)}{m:Str->Option Value},(∀v,(x,v)∉binds)->bindC kindOf binds m x=m x
 |[],_,_=>rfl
 |(n,v)::r,m,h=>by
  unfold bindC;rw[BD fun w hw=>h w (Aq _ hw)];split
  ·rfl
  ·have:x≠n:=by rintro rfl;exact h v As
   simp[this]
def BE{kindOf:Str->Option NameKind}{x:Str}{v:Value}:∀{P:List Str}{vs:List Value}{i:Nat}{m:Str->Option Value},P.Nodup->P[i]?=some x->vs[i]?=some v->kindOf x=some .local->
  bindL kindOf (P.zip vs) m x=some v
 |[],_,_,_,_,h,_,_=>by simp at h
 |_::_,[],_,_,_,_,h,_=>by simp at h
 |p::P,w::vs,0,m,nd,h1,h2,hk=>by
  simp at h1 h2;subst h1;subst h2;show bindL kindOf ((p,w)::P.zip vs) m p=_;unfold bindL;rw[BC fun v a=>(List.nodup_cons.mp nd).1 (List.of_mem_zip a).1,if_pos hk];simp
 |p::P,w::vs,i+1,m,nd,h1,h2,hk=>by
  show bindL kindOf ((p,w)::P.zip vs) m x=_;unfold bindL;exact BE (i:=i) (List.nodup_cons.mp nd).2 (by simpa using h1) (by simpa using h2) hk
def BF{kindOf:Str->Option NameKind}{x:Str}{v:Value}:∀{P:List Str}{vs:List Value}{i:Nat}{m:Str->Option Value},P.Nodup->P[i]?=some x->vs[i]?=some v->kindOf x≠some .local->
  bindC kindOf (P.zip vs) m x=some v
 |[],_,_,_,_,h,_,_=>by simp at h
 |_::_,[],_,_,_,_,h,_=>by simp at h
 |p::P,w::vs,0,m,nd,h1,h2,hk=>by
  simp at h1 h2;subst h1;subst h2;show bindC kindOf ((p,w)::P.zip vs) m p=_;unfold bindC;rw[BD fun v a=>(List.nodup_cons.mp nd).1 (List.of_mem_zip a).1,if_neg hk];simp
 |p::P,w::vs,i+1,m,nd,h1,h2,hk=>by
  show bindC kindOf ((p,w)::P.zip vs) m x=_;unfold bindC;exact BF (i:=i) (List.nodup_cons.mp nd).2 (by simpa using h1) (by simpa using h2) hk
def start(N:List Str)(vs:List V):St:=vs.map some++List.replicate (N.length-vs.length) none
def dI(CX:eu)(P:Program)(w:World)(K:Af)(mg:Str->Option Value)(base:Heap)(N:List Str)(a:Str)(scope:Scope)(f:Addr)(b:Value)(A:Around)(outer:List Env)(s:Shared)(H:Hp)(E:XK):Cx where
 prog:=P
 w:=w
 K:=K
 mg:=mg
 base:=base
 A:=A.deeper (envOfC a scope s⁻¹ f b)
 N:=N
 s₀:=s
 H₀:=H
 env:=envOfC a scope s⁻¹ f b
 outer:=outer
 stack:=envOfC a scope s⁻¹ f b::outer
 ex:=[]
 calm:=true
 fn:=fun _=>true
 pn:=[]
 xe:=fun e s'=>wpAny (model P w) (A.deeper (envOfC a scope s⁻¹ f b)) (leaving (envOfC a scope s⁻¹ f b) e) (fun _ c=>CX outer H s E e c) (fun d c=>CX outer H s E d c) s'
def BG{a:Scope}{n:Nat}{x:Str}(h:a.names.lookup x=some .cell):∃c,(cellsFrom n a.names []).lookup x=some c:=by
 have q:=PySem.W.cellsFrom_some a.names n [] (.inl h);exact Option.isSome_iff_exists.mp q
def GC{CX:eu}{P:Program}{w:World}{K:Af}{mg:Str->Option Value}{base:Heap}{N ps:List Str}{j:Str}{scope:Scope}{f:Addr}{l:Value}{A:Around}{outer:List Env}{s C:Shared}{H:Hp}{E:XK}{us:List Value}{vs:List V}(S:zq N ps scope)(hd:A.handled=none)(d:Env0 P w K mg base A outer s H)(hl:vs.length=ps.length)(r:Vals vs us)(x:InCallC s s⁻¹ (bindL (envOfC j scope s⁻¹ f l).kindOf (ps.zip us) fun _=>none) (cellsFrom (s⁻¹+1) scope.names []) (bindC (envOfC j scope s⁻¹ f l).kindOf (ps.zip us) fun _=>none) C):Inv (dI CX P w K mg base N j scope f l A outer s H E) [] (start N vs) H C:=by
 have F:ps.length<=N.length:=by have:=congrArg List.length S.pre;rw[Ay] at this;omega
 obtain⟨h1,tk,rfl,hk⟩:=x.done;have o:∀b:Addr,b∉(dI CX P w K mg base N j scope f l A outer s H E).ex:=fun b z=>absurd (show b∈([]:List Addr) from z) (by simp);refine⟨⟨d.mod,S.kind,rfl,rfl,Ag _,fun y z c h1 h2=>?_,fun y hy=>?_,fun y c _ h=>?_,fun _=>hd,Around.frames_deeper d.frames,.inr ⟨rfl,rfl⟩,fun b z=>absurd z (o b),d.bs,d.bsz,fun b _ _=>o b,fun b z=>absurd z (o b),d.funs,d.frf⟩,
  rfl,d.bare,Un.kept hk,⟨_,x.toInCall.ns,fun i y v h1 h2 h3=>?_⟩,fun y c h=>⟨_,x.cell y c h⟩,d.hok.fresh (Ag _),fun y c h=>?_,fun p hp=>absurd (show p∈([]:Ψ) from hp) (by simp),d.hok.kept hk,?_⟩
 ·exact name_of_addr x.apart (PySem.mem_of_lookup h1) (PySem.mem_of_lookup h2)
 ·have hy:scope.names.lookup y=some .cell\/scope.names.lookup y=some .free:=hy
  rcases hy with hy|hy
  ·exact BG hy
  ·exact absurd rfl (S.nofree _ (PySem.mem_of_lookup hy))
 ·exact Nat.le_of_lt (x.above y c (PySem.mem_of_lookup h))
 ·have hi:i<vs.length:=by
   unfold start at h2
   by_cases hi:i<vs.length
   ·exact hi
   ·rw[List.getElem?_append_right (by simpa using hi)] at h2
    rw[List.getElem?_replicate] at h2;split at h2<;>cases h2
  have G:vs[i]?=some v:=by
   unfold start at h2;rw[List.getElem?_append_left (by simpa using hi),Ak] at h2;cases e:vs[i]? with
   |none=>rw[e] at h2;cases h2
   |some a=>rw[e] at h2;cases h2;rfl
  obtain⟨u,hu,D⟩:=r.get G;have hp:ps[i]?=some y:=by
   rw[<-S.pre,List.getElem?_take_of_lt ω];exact h1
  have g:ps.Nodup:=by rw[<-S.pre];exact S.nd.sublist (List.take_sublist _ _)
  refine⟨u,D,?_⟩;rcases S.par y (Al hp) with k|k
  ·exact .inl ⟨k,BE g hp hu k⟩
  ·obtain⟨c,e⟩:=BG (n:=s⁻¹+1) k
   refine .inr ⟨.inl k,c,e,?_⟩;have q:=x.cell y c e;rw[BF g hp hu (by show scope.names.lookup y≠_;rw[k];decide)] at q;exact q
 ·exact d.hok.fresh (Nat.le_of_lt (x.above y c (PySem.mem_of_lookup h)))
 ·unfold start
  show _=N.length;rw[Ai,Aa,List.length_replicate];omega
def GD{CX:eu}{P:Program}{w:World}{K:Af}{mg:Str->Option Value}{base:Heap}{k:Nat}{f:Addr}{name a:Str}{h:Arguments}{body:List Stmt}{scope:Scope}{i kV j l cdv ct U:Value}{p X:Option Addr}{F:Array (Option Value)}{N ps:List Str}{sp:Sp}(lk:K.lookup f=some ⟨U,X,.func (PySem.W.fnOf name a h body scope i kV j l p cdv ct),F⟩)(G:PySem.W.codeIn K cdv a=true)(S:zq N ps scope)(len:∀vs H Q E,sp vs H Q E->vs.length=ps.length)(Y:∀(A:Around)(outer:List Env)(s:Shared)(H:Hp)(vs:List V)(Q:VK)(E:XK),Room k (A.deeper (envOfC a scope s⁻¹ f cdv))->sp vs H Q E->
   ∃t,PSs (dI CX P w K mg base N a scope f cdv A outer s H E) body t/\t {nx:=fun _ H'=>Q .non H',rt:=Q} (start N vs) H):
  FnOk P w K mg base CX (k+1) f (PySem.W.fnOf name a h body scope i kV j l p cdv ct) ps sp:=by
 refine⟨len,fun A outer s H args us vs Q E hr c hb r z=>?_⟩;have hl:=len _ _ _ _ z;have D:K.In s.heap:=c.mod.kin.keeps fun b o e=>(c.bs b o e).1;have O:s.heap.NoLimit:=c.mod.nolimit.keeps fun b o e=>(c.bs b o e).1;have T:∀y∈ps.zip us,scope.names.lookup y.1=some .local\/(scope.names.lookup y.1=some .cell/\((cellsFrom (s⁻¹+1) scope.names []).lookup y.1).isSome=true):=fun⟨n,v⟩ hy=>by
  rcases S.par n (List.of_mem_zip hy).1 with q|q
  ·exact .inl q
  ·exact .inr ⟨q,PySem.W.cellsFrom_some _ _ _ (.inl q)⟩
 refine codeAny_call_function hr.depth (D _ _ lk) rfl S.co S.gen rfl (PySem.W.codeRec_of D G) (hb _ _ _ _ ?_);refine wpAny_newFunctionEnv_cells S.kind T fun env he C x=>?_;subst he;refine⟨O.keeps x.toInCall.keep,codeAny_func ?_⟩;obtain⟨t,M,hq⟩:=Y A outer s H vs Q E (hr.deeper _) z;have I:Inv (dI CX P w K mg base N a scope f cdv A outer s H E) [] (start N vs) H C:=GC S hr.hd c hl r x;refine wpAny_mono (M [] C (start N vs) H _ I hq) (fun L s' hs=>?_) fun e s' hs=>hs;have fin:∀{d:St}{H':Hp}{v:V}{u:Value},Inv (dI CX P w K mg base N a scope f cdv A outer s H E) [] d H' s'->RelV v u->Q v H'->CE outer P w H s Q u s':=
  fun{d H' v u} J g q=>⟨v,H',J.os,J.bare,J.base,J.hok,g,q⟩
 cases L with
 |ret u=>
  obtain⟨v,d,H',J,g,q⟩:=hs;exact fin J g q
 |next=>
  obtain⟨d,H',J,q⟩:=hs;exact fin (v:=V.non) (u:=Value.none) J rfl q
 |brk=>
  obtain⟨_,_,_,q⟩:=hs;exact False.elim q
 |cont=>
  obtain⟨_,_,_,q⟩:=hs;exact False.elim q
section
variable{X:Cx}{x:Str}{p pos:Pos}{e:Expr}{es:List Expr}{t:TA}{id T:String}{r:List V->Hp->VK->Prop}
def iO(r:List V->Hp->VK->Prop)(t:TA):TE:=fun σ H Q=>t σ H fun vs H1=>r vs H1 Q
def zl(hc:df X (.builtin id) r)(f:Gl X x)(hm:X.mg x=none)(g:A5 x=some (.builtin id))(i:PA X (e::es) t)(hn:x≠"__name__":=by decide)(j:(x==("__debug__":Str))=false:=by decide)
  (he:starEach (e::es) X.env=(false,eval e X.env)::starEach es X.env:=by rfl) (a:(backTo pos (starEach es X.env)).any (·.1)=false:=by rfl):PE X (.Call (.Name x p) (e::es) [] pos) (iO r t):=by
 intro aa s σ H Q I h;refine wpAny_Call_Name_kw (jg I f hm g ?_ hn j);exact PyProof.Rows.callWith_builtin1 (aP (i pos aa s σ H _ I h) fun us b ⟨vs,H1,l,c,d⟩=>hc aa b σ H1 vs us Q l c d) he a
def zm(hc:df X (.type T) r)(f:Gl X x)(hm:X.mg x=none)(g:A5 x=some (.type T))(i:PA X (e::es) t)(hn:x≠"__name__":=by decide)(j:(x==("__debug__":Str))=false:=by decide)
  (he:starEach (e::es) X.env=(false,eval e X.env)::starEach es X.env:=by rfl) (a:(backTo pos (starEach es X.env)).any (·.1)=false:=by rfl):PE X (.Call (.Name x p) (e::es) [] pos) (iO r t):=by
 intro aa s σ H Q I h;refine wpAny_Call_Name_kw (jg I f hm g ?_ hn j);exact PyProof.Rows.callWith_type1 (aP (i pos aa s σ H _ I h) fun us b ⟨vs,H1,l,c,d⟩=>hc aa b σ H1 vs us Q l c d) he a
end
end L2
namespace HT
open PySem PyProof.Rows
def lexLt:List Int->List Int->Bool
 |[],[]=>false
 |[],_::_=>true
 |_::_,[]=>false
 |x::xs,y::ys=>if x=y then lexLt xs ys else decide (x<y)
def zz(x y:Int)(xs ys:List Int):lexLt (x::xs) (y::ys)=if x=y then lexLt xs ys else decide (x<y):=rfl
def BH:lexLt [] []=false:=rfl
def zW(y:Int)(ys:List Int):lexLt [] (y::ys)=true:=rfl
def BI(x:Int)(xs:List Int):lexLt (x::xs) []=false:=rfl
def GE(A:Around)(s:Shared)(a:Int)(t:Tok)(c:Int)(u:Tok):∃e,SeqAt.EqAt A s (.int a t) (.int c u) e/\(e=true↔a=c):=
 ⟨(a==c),SeqAt.EqAt.int_int a t c u,by simp⟩
def GF(A:Around)(s:Shared)(a:Int)(t:Tok)(c:Int)(u:Tok)(prog:Program)(w:World)(E:Ω)(Q:Ω)(h:Q (.bool (decide (a<c))) s):wpAny (model prog w) A (richCompare .Lt (.int a t) (.int c u)) Q E s:=
 (PyProof.Rows.lt_int h:wpAny (model prog w) A (compareOp .Lt (.int a t) (.int c u)) Q E s)
section
open PySem.SeqAt
open PySem.AutoSeq1 (wpAny_loadPart')
open PySem.MeetsSeq PySem.MeetsSeq2 PySem.MeetsSeq3
def GG(l b:Addr)(p r:Array Value)(n n2:Nat)(dd J:Option Addr)(L M:Array (Option Value))(C D:List Int)(hi:IntsAre p.toList C)(H:IntsAre r.toList D):Meets (Builtin.«tuple.__lt__» ⟨[.ref l,.ref b],[]⟩)
   (fun _ R s=>s.heap.get? l=some {cls:=.type "tuple",dict:=dd,data:=.seq p n,slots:=L}/\s.heap.get? b=some {cls:=.type "tuple",dict:=J,data:=.seq r n2,slots:=M}/\
    R (.ok (.ret (.bool (lexLt C D)))) s):=
 .of_wp fun prog w A R s h=>by
  obtain⟨hp,g,d,tk,os⟩:=s;obtain⟨hl,hb,h⟩:=h;have f2:=AutoSeq1.sub_tuple_tuple;have P:p.size=C.length:=by rw[<-hi.length];simp
  have z2:r.size=D.length:=by rw[<-H.length];simp
  wp_walk using wpAny_loadPart' hl,wpAny_loadPart' hb,wpAny_forIn_list _ (fun rest b s'=>b.1=none/\s'=⟨hp,g,d,tk,os⟩/\∃(vs v:List Value)(j o:List Int),rest=vs.zip v/\
   IntsAre vs j/\IntsAre v o/\j.length+r.size=o.length+p.size/\R (.ok (.ret (.bool (lexLt j o)))) ⟨hp,g,d,tk,os⟩) _
  case turn=>
   rintro⟨y,x⟩ rest b s' ⟨i,rfl,vs,v,j,o,hz,E,z,f,hR⟩;cases E with
   |nil=>rw[List.zip_nil_left] at hz;cases hz
   |cons a t hvi'=>
    cases z with
    |nil=>rw[List.zip_nil_right] at hz;cases hz
    |cons c u hwi'=>
     rw[List.zip_cons_cons] at hz;injection hz with hyx b_
     injection hyx with hy hx
     subst hy hx;rw[zz] at hR;simp only[An] at f;obtain⟨e,he,F⟩:=GE A.in1 ⟨hp,g,d,tk,os⟩ a t c u;refine Ab (he prog w _ _ ?_);cases e with
     |true=>
      rw[if_pos (F.mp rfl)] at hR
      wp_walk
      exact⟨rfl,rfl,_,_,_,_,b_,hvi',hwi',ω,hR⟩
     |false=>
      rw[if_neg (fun q=>absurd (F.mpr q) At)] at hR;have I:=GF A.in1 ⟨hp,g,d,tk,os⟩ a t c u prog w
      wp_walk using I
      exact⟨_,rfl,by simpa using hR⟩
  case fin=>
   rintro⟨N,O⟩ s' ⟨i,rfl,vs,v,j,o,hz,E,z,f,hR⟩;simp only at i;subst i;have G:lexLt j o=decide (p.size<r.size):=by
    cases E with
    |nil=>
     cases z with
     |nil=>
      simp only[List.length_nil] at f;rw[BH];exact(decide_eq_false ω).symm
     |cons c u hw=>
      simp only[List.length_nil,An] at f;rw[zW];exact(decide_eq_true ω).symm
    |cons a t G=>
     cases z with
     |nil=>
      simp only[List.length_nil,An] at f;rw[BI];exact(decide_eq_false ω).symm
     |cons c u hw=>
      rw[List.zip_cons_cons] at hz;cases hz
   rw[G] at hR
   wp_walk
   exact⟨_,rfl,by simpa[Builtin.Tuple.tupleCompareSizes] using hR⟩
  case h=>
   exact⟨rfl,rfl,p.toList,r.toList,C,D,rfl,hi,H,ω,h⟩
end
section
variable{prog:Program}{w:World}{A:Around}{E:Ω}{s:Shared}
def GH{l b:Addr}{d e:Array Value}{a c:List Int}{Q:Ω}(hl:IsTup s.heap l d)(hb:IsTup s.heap b e)(hi:IntsAre d.toList a)(r:IntsAre e.toList c)(hu:A.units<cLine)(h:Q (.bool (lexLt a c)) s):wpAny (model prog w) A (compareOp .Lt (.ref l) (.ref b)) Q E s:=by
 obtain⟨⟨cls,dd,data,o⟩,f,hc,n,hd⟩:=id hl;obtain⟨⟨u,p,data2,q⟩,g,i,n2,j⟩:=id hb;simp only at hc hd i j;subst hc hd i j;exact richCompare_meets_room (op:=.Lt) ⟨_,f,rfl⟩ ⟨_,g,rfl⟩ PySem.F.slot_tuple_lt PySem.F.entry_tuple_lt (PySem.F.args_tuple_lt_2 _ _) (GG l b d e n n2 dd p o q a c hi r)
  ⟨f,g,show Value.bool (lexLt a c)≠Value.notImplemented/\Q (.bool (lexLt a c)) s from⟨(fun x=>nomatch x),h⟩⟩ hu
def GI{t b:Addr}{vs a:List Value}{Q:Ω}(o:IsTup s.heap t vs.toArray)(hb:IsTup s.heap b a.toArray)(l:vs≠[])(h1:a=[]->Q (.ref t) s)(h2:a≠[]->Q (.ref s⁻¹) {s with heap:=s.heap.push {cls:=.type "tuple",data:=.seq (vs++a).toArray}})(hsz:vs.length+a.length<=sizeLine):wpAny (model prog w) A (binaryOp .Add (.ref t) (.ref b)) Q E s:=by
 obtain⟨⟨cls,dd,data,f⟩,c,hc,n,hd⟩:=id o;obtain⟨⟨p,g,data2,h⟩,d,i,n2,j⟩:=id hb;simp only at hc hd i j;subst hc hd i j;have e:vs.toArray++a.toArray=(vs++a).toArray:=by simp
 by_cases hw:a=[]
 ·exact concat_meets ⟨_,c,rfl⟩ ⟨_,d,rfl⟩ noFill_tuple_add seq_tuple_add PySem.F.slot_tuple_add PySem.F.entry_tuple_add (PySem.F.args_tuple_add_2 _ _)
   (tuple_addW1 t b vs.toArray a.toArray n n2 dd g f h (by simpa using l) (by simp[hw])) ⟨c,d,h1 hw⟩
 ·refine concat_meets ⟨_,c,rfl⟩ ⟨_,d,rfl⟩ noFill_tuple_add seq_tuple_add PySem.F.slot_tuple_add PySem.F.entry_tuple_add (PySem.F.args_tuple_add_2 _ _)
   (tuple_addW2 t b vs.toArray a.toArray n n2 dd g f h (by simpa using l) (by simpa using hw) (by rw[Aj,Aj];exact hsz)) ⟨c,d,?_⟩
  rw[e];exact h2 hw
def sIx(n d:Nat):Option Int->Nat
 |none=>d
 |some v=>if v<0 then(v+(n:Int)).toNat else min v.toNat n
def pD(n d:Nat):sIx n d none=d:=rfl
def ms(n d k:Nat):sIx n d (some (k:Int))=min k n:=by
 show(if(k:Int)<0 then((k:Int)+(n:Int)).toNat else min (k:Int).toNat n)=min k n;rw[if_neg ω,Int.toNat_natCast]
def GJ(n d:Nat)(hd:d<=n)(o:Option Int):sIx n d o<=n:=by
 cases o with
 |none=>exact hd
 |some v=>
  show(if v<0 then(v+(n:Int)).toNat else min v.toNat n)<=n
  by_cases a:v<0
  ·rw[if_pos a];omega
  ·rw[if_neg a];exact Nat.min_le_right _ _
def BJ(v:Int)(n d:Nat):(if v<0 then max (v+(n:Int)) 0 else min v (n:Int))=((sIx n d (some v):Nat):Int):=by
 show(if v<0 then max (v+(n:Int)) 0 else min v (n:Int))=(((if v<0 then(v+(n:Int)).toNat else min v.toNat n):Nat):Int)
 by_cases a:v<0
 ·simp only[if_pos a];omega
 ·simp only[if_neg a];omega
def GK(lo hi:Option Int)(n:Nat):Builtin.Slice.sliceAdjust lo hi 1 (n:Int)=(((sIx n 0 lo:Nat):Int),((sIx n n hi:Nat):Int)):=by
 have h1:¬((1:Int)<0):=ω
 unfold Builtin.Slice.sliceAdjust;simp only[h1,if_false];refine Prod.ext ?_ ?_
 ·cases lo with
  |none=>rfl
  |some v=>exact BJ v n 0
 ·cases hi with
  |none=>rfl
  |some v=>exact BJ v n n
def GL(i j:Nat):Builtin.Slice.slicePlaces (i:Int) (j:Int) 1=j-i:=by
 unfold Builtin.Slice.slicePlaces;have h1:(1:Int)>0:=ω
 simp only[h1,if_true,Int.ediv_one];split<;>omega
def BK{v:Value}{o:Option Int}{Q:Option Int->Shared->Prop}(p:IsPart v o)(h:Q o s):wpAny (model prog w) A (Builtin.Slice.slicePartIndex v) Q E s:=by
 cases p with
 |none=>exact slicePart_none h
 |int i t=>exact slicePart_int h
def BL{e:Addr}{c d:Value}{lo hi:Option Int}{n:Nat}{Q:Int×Int×Nat->Shared->Prop}(hs:s.heap.IsSliceOf e c d .none)(f:IsPart c lo)(g:IsPart d hi)(h:Q (((sIx n 0 lo:Nat):Int),1,sIx n n hi-sIx n 0 lo) s):wpAny (model prog w) A (Builtin.Slice.sliceApplied (.ref e) (pure (n:Int))) Q E s:=by
 obtain⟨os,a,hcs,b⟩:=id hs;unfold Builtin.Slice.sliceApplied Builtin.Slice.sliceFields;refine Ab (Ab (wpAny_field a b (x:=c) rfl (Ab (wpAny_field a b (x:=d) rfl (Ab (wpAny_field a b (x:=.none) rfl (Ac ?_)))))));refine Ab (slicePart_none ?_);show wpAny _ _ (if((1:Int)==0)=true then _ else _) _ _ s;rw[if_neg ξ];refine Ab (BK f (Ab (BK g (Ab (Ac ?_)))));show wpAny _ _ (match Builtin.Slice.sliceAdjust lo hi 1 (n:Int) with|(lo,hi)=>pure (lo,(1:Int),Builtin.Slice.slicePlaces lo hi 1)) _ _ s;rw[GK lo hi n];show wpAny _ _ (pure (((sIx n 0 lo:Nat):Int),(1:Int),Builtin.Slice.slicePlaces ((sIx n 0 lo:Nat):Int) ((sIx n n hi:Nat):Int) 1)) _ _ s;rw[GL];exact Ac h
def GM(xs:Array Value)(i k:Nat):((AB k).filterMap fun(m:Nat)=>xs[((i:Int)+(m:Int)*1).toNat]?).toArray=((xs.toList.drop i).take k).toArray:=by
 have e:(fun(m:Nat)=>xs[((i:Int)+(m:Int)*1).toNat]?)=fun m=>xs[i+m]?:=by
  funext m
  have:((i:Int)+(m:Int)*1).toNat=i+m:=ω
  rw[this]
 rw[e];have:=pick_run xs i k;rw[List.filterMap_map] at this;have e2:((fun x=>xs[x]?) ∘ fun x=>i+x)=fun m=>xs[i+m]?:=rfl;rw[e2] at this;rw[this]
def GN{t d:Addr}{a:Array Value}{e f:Value}{lo hi:Option Int}{Q:Ω}(c:IsTup s.heap t a)(hs:s.heap.IsSliceOf d e f .none)(l:IsPart e lo)(o:IsPart f hi)(hw:¬(sIx a.size 0 lo=0/\sIx a.size a.size hi=a.size))(h:Q (.ref s⁻¹) {s with heap:=s.heap.push {cls:=.type "tuple",data:=.seq ((a.toList.drop (sIx a.size 0 lo)).take (sIx a.size a.size hi-sIx a.size 0 lo)).toArray}})(hsz:a.size<=sizeLine):wpAny (model prog w) A (getItem (.ref t) (.ref d)) Q E s:=by
 have b:sizeOk (.seq ((a.toList.drop (sIx a.size 0 lo)).take (sIx a.size a.size hi-sIx a.size 0 lo)).toArray):=by
  show((a.toList.drop (sIx a.size 0 lo)).take (sIx a.size a.size hi-sIx a.size 0 lo)).toArray.size<=sizeLine;rw[Aj,Ay,List.length_drop,A1];omega
 have r:sIx a.size a.size hi<=a.size:=GJ _ _ (Ag _) hi;obtain⟨os,g,hcs,p⟩:=id hs;have i:s.TypeIs (.ref d) "slice":=⟨os,g,hcs⟩;unfold getItem
 try with_reducible refine AM ?_
 first|refine Ab (Ac ?_)|skip
 refine Ab (wpAny_sequenceKey c.typeIs ξ ?_);refine Ab (wpAny_callSpecial?_slot (name:=Str.ofString "__getitem__") c.typeIs PyProof.Rows.slot_tuple_getitem
  (wpAny_call_entry PyProof.Rows.slot_tuple_getitem c.typeIs entry_tuple_getitem ?_ (args_tuple_getitem _ _)))
 show wpAny _ _ (Builtin.Tuple.tupleItemsOf (.ref t) >>= _) _ _ s;refine Ab (tupleItemsOf_ c ?_);refine Ab (wpAny_typeOf i ?_);rw[if_pos ξ];refine Ab (BL hs l o ?_);have j:¬((((sIx a.size 0 lo:Nat):Int)==0&&(1:Int)==1&&(sIx a.size a.size hi-sIx a.size 0 lo)==a.size)=true):=by
  intro q;rw[AI,AI] at q;have u:((sIx a.size 0 lo:Nat):Int)=0:=eq_of_beq q.1.1;have v:sIx a.size a.size hi-sIx a.size 0 lo=a.size:=eq_of_beq q.2;exact hw ⟨ω,ω⟩
 show wpAny _ _ (if(((sIx a.size 0 lo:Nat):Int)==0&&(1:Int)==1&&(sIx a.size a.size hi-sIx a.size 0 lo)==a.size)=true then _ else _) _ _ s;rw[if_neg j,GM]
 first
  |exact Ab (m:=Builtin.Tuple.tupleExact _) (Bb (Ac ⟨_,rfl,Ac h⟩) b)
  |exact Ab (m:=Builtin.Tuple.tupleExact _) (Bb (Ab (Ac (Ac ⟨_,rfl,Ac h⟩))) b)
  |exact Ab (Ab (m:=Builtin.Tuple.tupleExact _) (Bb (Ac (Ac ⟨_,rfl,Ac h⟩)) b))
  |exact Ab (Ab (m:=Builtin.Tuple.tupleExact _) (Bb (Ac ⟨_,rfl,Ac h⟩) b))
end
end HT
namespace L2
open PySem PySem.Spec PyProof.Rows
abbrev TO:=St->Hp->(Option Int->Hp->Prop)->Prop
def PO(X:Cx)(e:Option Expr)(t:TO):Prop:=
 ∀(aa:Ψ)(s:Shared)(σ:St)(H:Hp)(Q:Option Int->Hp->Prop),Inv X aa σ H s->t σ H Q->
  wpAny (model X.prog X.w) X.A (evalPart e X.env) (fun u s'=>∃o H',Inv X aa σ H' s'/\IsPart u o/\Q o H') X.xe s
def u4:TO:=fun _ H Q=>Q none H
def u8(t:TE):TO:=fun σ H Q=>t σ H fun x H1=>∃i,x=.int i/\Q (some i) H1
def intsAre_of{a:List Int}:∀{us:List Value},Vals (a.map V.int) us->IntsAre us a:=by
 induction a with
 |nil=>intro us r;rw[List.map_nil] at r;cases r;exact .nil
 |cons n a ih=>
  intro us r;rw[Av] at r;cases r with
  |cons r1 r2=>
   obtain⟨t,e⟩:=r1;subst e;exact .cons n t (ih r2)
section
variable{X:Cx}{e:Expr}{te:TE}{lo hi:Option Expr}{tl th:TO}{pos p2:Pos}
def ia:PO X none u4:=by
 intro aa s σ H Q I h;rw[evalPart_none];exact Ac ⟨none,H,I,.none,h⟩
def ic(h:PE X e te):PO X (some e) (u8 te):=by
 intro aa s σ H Q I hw;rw[evalPart_some];refine aP (h aa s σ H _ I hw) fun u d ⟨x,H1,c,a,b⟩=>?_;obtain⟨i,rfl,q⟩:=b;obtain⟨t,rfl⟩:=a;exact⟨some i,H1,c,.int i t,q⟩
def pE(X:Cx)(r:V->Option Int->Option Int->Hp->VK->Prop):Prop:=
 ∀(aa:Ψ)(s:Shared)(σ:St)(H:Hp)(x:V)(v a b:Value)(lo hi:Option Int)(c:Addr)(Q:VK),Inv X aa σ H s->RelV x v->s.heap.IsSliceOf c a b .none->IsPart a lo->IsPart b hi->r x lo hi H Q->
  ∃T id,typeLookup (.type T) "__getitem__"=pure (some (.builtin id))/\s.TypeIs v T/\wpAny (model X.prog X.w) X.A (getItem v (.ref c)) (EP X aa σ Q) X.xe s
def u9(r:V->Option Int->Option Int->Hp->VK->Prop)(te:TE)(tl th:TO):TE:=fun σ H Q=>te σ H fun x H1=>tl σ H1 fun l H2=>th σ H2 fun u a=>r x l u a Q
def kJ{r:V->Option Int->Option Int->Hp->VK->Prop}(hr:pE X r)(he:PE X e te)(hl:PO X lo tl)(hu:PO X hi th):PE X (.Subscript e (.Slice lo hi none p2) pos) (u9 r te tl th):=by
 intro aa s σ H Q I h;refine Subscript_ (aP (he aa s σ H _ I h) fun v g ⟨x,H1,G,i,j⟩=>?_);refine wpAny_Slice (aP (hl aa g σ H1 _ G j) fun c o ⟨l,H2,J,p,y⟩=>aP (hu aa o σ H2 _ J y) fun d a ⟨u,f,I3,z,C⟩=>?_);rw[evalPart_none];refine Ac ?_;have L:Inv X aa σ f {a with heap:=a.heap.push {cls:=.type "slice",data:=.fields #[c,d,.none]}}:=I3.kept (t':=a.toks) fun b ob q=>Ad _ q;obtain⟨T,id,D,E,F⟩:=hr aa {a with heap:=a.heap.push {cls:=.type "slice",data:=.fields #[c,d,.none]}} σ f x v c d l u a⁻¹ Q L i (Heap.IsSliceOf.new ..) p z C;show wpAny (model X.prog X.w) X.A (subscriptTail e (.Slice lo hi none p2) v (.ref a⁻¹)) (EP X aa σ Q) X.xe {a with heap:=a.heap.push {cls:=.type "slice",data:=.fields #[c,d,.none]}};exact tail_any (ops:=[.ref a⁻¹,v]) E D F (by with_unfolding_all rfl)
def ca(xs:List V)(lo hi:Option Int):List V:=(xs.drop (HT.sIx xs.length 0 lo)).take (HT.sIx xs.length xs.length hi-HT.sIx xs.length 0 lo)
def BM(xs:List V)(lo hi:Option Int):(ca xs lo hi).length<=xs.length:=by
 unfold ca;rw[Ay,List.length_drop];omega
def va(K:Af):V->Option Int->Option Int->Hp->VK->Prop:=fun x lo hi H Q=>∃a xs,x=.ref a/\SqT K H a xs/\
 ¬(HT.sIx xs.length 0 lo=0/\HT.sIx xs.length xs.length hi=xs.length)/\∀p,H p=none->Q (.ref p) (upd H p (.tup (ca xs lo hi)))
def BN:pE X (va X.K):=by
 intro aa s σ H x v j l lo hi p Q I e hs f g h;obtain⟨a,xs,rfl,hx,hw,q⟩:=h;cases e;obtain⟨i,r,d,hz⟩:=I.tuple hx;have c:i.toArray.size=xs.length:=by rw[Aj];exact r.length.symm
 refine⟨"tuple",_,PyProof.Rows.slot_tuple_getitem.lookup,d.typeIs,?_⟩;refine HT.GN d hs f g (by rw[c];exact hw) ?_ (by rw[c];exact hz);rw[c];refine⟨.ref s⁻¹,_,I.laid (t':=s.toks) (o:=.tup (ca xs lo hi)) (fun b ob q=>Ad _ q) (Ag _) ?_,rfl,q _ (I.hok.fresh (Ag _))⟩;exact⟨AD (BM xs lo hi) hz,_,(r.drop (HT.sIx xs.length 0 lo)).take (HT.sIx xs.length xs.length hi-HT.sIx xs.length 0 lo),IsTup.new _ _⟩
def Vals.nil_iff{xs:List V}{us:List Value}(r:Vals xs us):us=[]↔xs=[]:=by
 cases r with
 |nil=>simp
 |cons _ _=>simp
end
def ie(n:Nat)(i:Int):Option Nat:=if 0<=i then(if i<n then some i.toNat else none) else if -(n:Int)<=i then some (i+n).toNat else none
def ew{a:Type}(xs:List a)(i:Int):Option a:=(ie xs.length i).bind fun j=>xs[j]?
def BO{n:Nat}{i:Int}{j:Nat}(h:ie n i=some j):seqIndex? i n=some j/\j<n/\-(n:Int)<=i/\i<n:=by
 unfold ie at h
 by_cases a:0<=i
 ·rw[if_pos a] at h
  by_cases h1:i<n
  ·rw[if_pos h1] at h
   have e:i.toNat=j:=Am h;exact⟨by rw[seqIndex_of a h1,e],ω,ω,h1⟩
  ·rw[if_neg h1] at h;cases h
 ·rw[if_neg a] at h
  by_cases h1:-(n:Int)<=i
  ·rw[if_pos h1] at h
   have e:(i+n).toNat=j:=Am h;exact⟨by rw[seqIndex_neg ω h1,e],ω,h1,ω⟩
  ·rw[if_neg h1] at h;cases h
def BP{a:Type}{xs:List a}{i:Int}{v:a}(h:ew xs i=some v):∃j,seqIndex? i xs.length=some j/\xs[j]?=some v/\j<xs.length/\-(xs.length:Int)<=i/\i<xs.length:=by
 unfold ew at h;cases e:ie xs.length i with
 |none=>rw[e] at h;cases h
 |some j=>
  rw[e] at h;obtain⟨h1,h2,h3,b⟩:=BO e;exact⟨j,h1,h,h2,h3,b⟩
def zy{a:Type}{xs:List a}{j:Nat}{v:a}(h:xs[j]?=some v):ew xs (j:Int)=some v:=by
 have b:j<xs.length:=(List.getElem?_eq_some_iff.mp h).1;have e:ie xs.length (j:Int)=some j:=by
  unfold ie;rw[if_pos ω,if_pos ω];simp
 unfold ew;rw[e];exact h
def GO{a:Type}(xs:List a)(v:a):ew (xs++[v]) (-1)=some v:=by
 have hl:(xs++[v]).length=xs.length+1:=by simp
 have e:ie (xs++[v]).length (-1)=some xs.length:=by
  unfold ie;rw[hl,if_neg ξ,if_pos ω]
  congr 1
  omega
 unfold ew;rw[e];show(xs++[v])[xs.length]?=some v;simp
def GP(b:Expr):Prop:=∀o i,subscripted b false o i=operate [o,i] (getItem o i)
def vb(X:Cx)(r:R2):Prop:=
 ∀(aM slice:Expr)(aa:Ψ)(s:Shared)(σ:St)(H:Hp)(x y:V)(v u:Value)(Q:VK),Inv X aa σ H s->RelV x v->RelV y u->r x y H Q->
  subscripted slice false v u=operate [v,u] (getItem v u)->wpAny (model X.prog X.w) X.A (subscriptTail aM slice v u) (EP X aa σ Q) X.xe s
def kN(X:Cx)(id:String)(r:V->List V->Hp->VK->Prop):Prop:=
 ∀(aa:Ψ)(s:Shared)(σ:St)(H:Hp)(x:V)(xs:List V)(v:Value)(us:List Value)(Q:VK),Inv X aa σ H s->RelV x v->Vals xs us->r x xs H Q->
  wpAny (model X.prog X.w) X.A (call (.builtin id) (v::us)) (EP X aa σ Q) X.xe s
section
variable{X:Cx}{a b:Expr}{ta tb:TE}{pos:Pos}
def cd{r:R2}(hr:vb X r)(f:PE X a ta)(hb:PE X b tb)(hs:GP b):PE X (.Subscript a b pos) (cr r ta tb):=by
 intro aa s σ H Q I h;exact Subscript_ (jm f hb I h fun v u c x y H2 g d e q=>hr a b aa c σ H2 x y v u Q g d e q (hs _ _))
def mu(K:Af):R2:=fun x y H Q=>∃p xs i v,x=.ref p/\y=.int i/\SqL K H p xs/\ew xs i=some v/\Q v H
def ga(K:Af):R2:=fun x y H Q=>∃p xs i v,x=.ref p/\y=.int i/\SqT K H p xs/\ew xs i=some v/\Q v H
def zU:vb X (mu X.K):=by
 intro aM slice aa s σ H x y v u Q I e f h hs;obtain⟨p,xs,i,z,rfl,rfl,hq,he,q⟩:=h;cases e;obtain⟨t,rfl⟩:=f;obtain⟨g,r,a,hz⟩:=I.list hq;obtain⟨j,h1,h2,h3,l,h5⟩:=BP he;obtain⟨w,c,o⟩:=r.get h2;have hl:=r.length;have hn:=cI;have fin:EP X aa σ Q w s:=⟨z,H,I,o,q⟩
 by_cases d:0<=i
 ·have b:i.toNat=j:=by
   rw[seqIndex_of d h5] at h1;exact Am h1
  exact item_listR a.isList d ω (by rw[b];simpa using c) fin hs
 ·have b:(i+(g.toArray.size:Int)).toNat=j:=by
   rw[seqIndex_neg ω l] at h1;rw[Aj,<-hl];exact Am h1
  exact subscriptTail_builtinR (x:=w) a.isList.typeIs slot_list_getitem.lookup
   (wpAny_getItem_list_neg (Q:=fun r s'=>r=w/\EP X aa σ Q r s') a.isList ω (by rw[Aj]<;>omega) ω (by rw[b];simpa using c) ⟨rfl,fin⟩) hs
def eT:vb X (ga X.K):=by
 intro aM slice aa s σ H x y v u Q I b c h hs;obtain⟨p,xs,i,z,rfl,rfl,hq,he,q⟩:=h;cases b;obtain⟨t,rfl⟩:=c;obtain⟨f,r,a,hz⟩:=I.tuple hq;obtain⟨j,h1,h2,h3,g,h5⟩:=BP he;obtain⟨w,d,e⟩:=r.get h2;have hl:=r.length;have hn:=cI;have fin:EP X aa σ Q w s:=⟨z,H,I,e,q⟩;exact subscriptTail_builtinR (x:=w) a.typeIs slot_tuple_getitem.lookup
  (getItem_tuple (j:=j) (Q:=fun r s'=>r=w/\EP X aa σ Q r s') a ω ω (by rw[Aj,<-hl];exact h1) (by simpa using d) ⟨rfl,fin⟩) hs
def GQ(a:List Value)(n j:Nat)(u:Value):AA (·.setIfInBounds j u) {cls:=.type "list",data:=.seq a.toArray n}={cls:=.type "list",data:=.seq (a.set j u).toArray n}:=by
 simp[AA]
def Inv.lst{aa:Ψ}{σ:St}{H:Hp}{s:Shared}{p:Addr}{xs:List V}(I:Inv X aa σ H s)(h:H p=some (.lst xs)):∃(a:List Value)(n:Nat),Vals xs a/\s.heap.get? p=some {cls:=.type "list",data:=.seq a.toArray n}/\xs.length<=sizeLine:=by
 obtain⟨z,a,n,r,e⟩:=I.hok p _ h;exact⟨a,n,r,e,z⟩
def Inv.lstUpd{aa:Ψ}{σ:St}{H:Hp}{s:Shared}{p:Addr}{xs ys:List V}{c its':List Value}{n a:Nat}{f:Obj->Obj}(I:Inv X aa σ H s)(h:H p=some (.lst xs))(d:s.heap.get? p=some {cls:=.type "list",data:=.seq c.toArray n})(hf:f {cls:=.type "list",data:=.seq c.toArray n}={cls:=.type "list",data:=.seq its'.toArray a})(r:Vals ys its')(hz:ys.length<=sizeLine)(t:Nat):Inv X aa σ (upd H p (.lst ys)) {s with heap:=s.heap.update p f,toks:=t}:=by
 have e:(s.heap.update p f).get? p=some {cls:=.type "list",data:=.seq its'.toArray a}:=by
  rw[Heap.get?_update_self f d (by rw[hf]<;>rfl),hf]
 refine I.write (x:=p) (e:=p) (by rw[h];trivial) (.inl rfl) (fun b u hb q=>(Heap.get?_update_other _ _ (Ne.symm hb)).trans q) ⟨_,e⟩ ?_;exact⟨hz,its',a,r,e⟩
def GR:V->V->V->Hp->(Hp->Prop)->Prop:=fun o i v H Q=>∃p xs k j,o=.ref p/\i=.int k/\H p=some (.lst xs)/\ie xs.length k=some j/\Q (upd H p (.lst (xs.set j v)))
def set_list:lY X GR:=by
 intro aa s σ H o i v x y u Q I f g l h;obtain⟨p,xs,k,j,rfl,rfl,hp,w,q⟩:=h;cases f;obtain⟨t,rfl⟩:=g;obtain⟨b,n,r,a,hz⟩:=I.lst hp;obtain⟨h1,h2,h3,c⟩:=BO w;have hl:=r.length;have hn:=cI;have e:Inv X aa σ (upd H p (.lst (xs.set j v))) {s with heap:=s.heap.update p (AA (·.setIfInBounds j u))}:=
  I.lstUpd hp a (GQ b n j u) (r.set l j) (by rw[List.length_set];exact hz) s.toks
 by_cases d:0<=k
 ·have hk:k.toNat=j:=by
   rw[seqIndex_of d c] at h1;exact Am h1
  exact PySem.W.ki_setAt a d ω (by rw[Aj,<-hl];exact c) (by rw[hk];exact⟨_,e,q⟩)
 ·have hk:(k+(b.toArray.size:Int)).toNat=j:=by
   rw[seqIndex_neg ω h3] at h1;rw[Aj,<-hl];exact Am h1
  exact PySem.W.ki_setBack a ω (by rw[Aj,<-hl];exact h3) ω (by rw[hk];exact⟨_,e,q⟩)
def GS(lo hi:Option Int)(n:Nat):(AW lo hi none n).1=((HT.sIx n 0 lo:Nat):Int)/\(AW lo hi none n).2.1=((HT.sIx n n hi:Nat):Int)/\(AW lo hi none n).2.2=1:=by
 refine⟨?_,?_,rfl⟩
 ·cases lo with
  |none=>simp[AW,HT.sIx]
  |some i=>
   simp only[AW,HT.sIx,Option.getD_none,show(1:Int)>0 from ξ,if_true]
   by_cases h:i<0
   ·simp only[h,if_true]<;>omega
   ·simp only[h,if_false]<;>omega
 ·cases hi with
  |none=>simp[AW,HT.sIx]
  |some i=>
   simp only[AW,HT.sIx,Option.getD_none,show(1:Int)>0 from ξ,if_true]
   by_cases h:i<0
   ·simp only[h,if_true]<;>omega
   ·simp only[h,if_false]<;>omega
def GT(a:List Value)(lo hi:Option Int):slicePick a.toArray lo hi none=((a.drop (HT.sIx a.length 0 lo)).take (HT.sIx a.length a.length hi-HT.sIx a.length 0 lo)).toArray:=by
 obtain⟨h1,h2,h3⟩:=GS lo hi a.toArray.size;unfold slicePick;rw[h1,h2,h3];simp only[sliceRange_one,pick_run,Aj]<;>rfl
def vc(K:Af):V->Option Int->Option Int->Hp->VK->Prop:=fun x lo hi H Q=>∃a xs,x=.ref a/\SqL K H a xs/\∀p,H p=none->Q (.ref p) (upd H p (.lst (ca xs lo hi)))
def GU:pE X (vc X.K):=by
 intro aa s σ H x v i j lo hi l Q I e hs f g h;obtain⟨a,xs,rfl,hx,q⟩:=h;cases e;obtain⟨p,r,d,hz⟩:=I.list hx;have c:=r.length;refine⟨"list",_,slot_list_getitem.lookup,d.isList.typeIs,?_⟩;refine wpAny_getItem_list_slice d.isList hs f g .none (by simp) ?_ (by rw[Aj]<;>omega);rw[GT,<-c];refine⟨.ref s⁻¹,_,I.laid (t':=s.toks) (o:=.lst (ca xs lo hi)) (fun b ob q=>Ad _ q) (Ag _) ?_,rfl,q _ (I.hok.fresh (Ag _))⟩;exact⟨AD (BM xs lo hi) hz,_,0,(r.drop (HT.sIx xs.length 0 lo)).take (HT.sIx xs.length xs.length hi-HT.sIx xs.length 0 lo),Ao _ rfl⟩
def BQ:V->Bool
 |.non=>true
 |.bl _=>true
 |.int _=>true
 |.str _=>true
 |_=>false
def GV:V->V->Bool
 |.non,.non=>true
 |.bl a,.bl b=>a==b
 |.bl a,.int b=>(if a then 1 else 0)==b
 |.int a,.bl b=>a==(if b then 1 else 0)
 |.int a,.int b=>a==b
 |.str a,.str b=>a==b
 |_,_=>false
def GW{A:Around}{s:Shared}{y x:V}{u v:Value}(d:RelV y u)(c:RelV x v)(e:BQ y=true)(fx:BQ x=true):SeqAt.EqAt A s u v (GV y x):=by
 cases y with
 |non=>
  cases d;cases x with
  |non=>cases c;exact SeqAt.EqAt.same _
  |bl b=>cases c;exact SeqAt.EqAt.none_bool b
  |int b=>obtain⟨t,rfl⟩:=c;exact SeqAt.EqAt.none_int b t
  |str b=>obtain⟨t,rfl⟩:=c;exact SeqAt.EqAt.none_str b t
  |_=>exact absurd (show false=true from fx) At
 |bl a=>
  cases d;cases x with
  |non=>cases c;exact SeqAt.EqAt.bool_none a
  |bl b=>cases c;exact SeqAt.EqAt.bool_bool a b
  |int b=>obtain⟨t,rfl⟩:=c;exact SeqAt.EqAt.bool_int a b t
  |str b=>obtain⟨t,rfl⟩:=c;exact SeqAt.EqAt.bool_str a b t
  |_=>exact absurd (show false=true from fx) At
 |int a=>
  obtain⟨t',rfl⟩:=d;cases x with
  |non=>cases c;exact SeqAt.EqAt.int_none a t'
  |bl b=>cases c;exact SeqAt.EqAt.int_bool a t' b
  |int b=>obtain⟨t,rfl⟩:=c;exact SeqAt.EqAt.int_int a t' b t
  |str b=>obtain⟨t,rfl⟩:=c;exact SeqAt.EqAt.int_str a t' b t
  |_=>exact absurd (show false=true from fx) At
 |str a=>
  obtain⟨t',rfl⟩:=d;cases x with
  |non=>cases c;exact SeqAt.EqAt.str_none a t'
  |bl b=>cases c;exact SeqAt.EqAt.str_bool a t' b
  |int b=>obtain⟨t,rfl⟩:=c;exact SeqAt.EqAt.str_int a t' b t
  |str b=>obtain⟨t,rfl⟩:=c;exact SeqAt.EqAt.str_str a t' b t
  |_=>exact absurd (show false=true from fx) At
 |_=>exact absurd (show false=true from e) At
def zj:df X (.builtin "len") (fun xs H Q=>∃p ys,xs=[.ref p]/\(SqL X.K H p ys\/SqT X.K H p ys)/\Q (.int ys.length) H):=by
 intro aa s σ H xs us Q I r h;obtain⟨p,ys,rfl,hq,q⟩:=h;obtain⟨u,rfl,d⟩:=vals1 r;cases d;have hn:=cI;rcases hq with hq|hq
 ·obtain⟨e,b,c,hz⟩:=I.list hq
  have a:=b.length;exact Calls.call_len_list c.isList (by simp only[Aj]<;>omega) ⟨.int ys.length,H,I.tok _,⟨s.toks+1,by rw[Aj,a]⟩,q⟩
 ·obtain⟨e,b,c,hz⟩:=I.tuple hq
  have a:=b.length;exact len_tuple c (by simp only[Aj]<;>omega) ⟨.int ys.length,H,I.tok _,⟨s.toks+1,by rw[Aj,a]⟩,q⟩
def zO:df X (.type "list") (fun xs H Q=>∃p ys,xs=[.ref p]/\(SqL X.K H p ys\/SqT X.K H p ys)/\∀l,H l=none->Q (.ref l) (upd H l (.lst ys))):=by
 intro aa s σ H xs us Q I r h;obtain⟨p,ys,rfl,hq,q⟩:=h;obtain⟨u,rfl,v⟩:=vals1 r;cases v;have fin:∀(a:List Value),Vals ys a->ys.length<=sizeLine->∀(h':Heap)(d:Nat),(∀b o',s.heap.get? b=some o'->h'.get? b=some o')->
   h'.get? s⁻¹=some {cls:=.type "list",dict:=none,data:=.seq a.toArray d,slots:=#[]}->EP X aa σ Q (.ref s⁻¹) {s with heap:=h'}:=fun a c hz h' d f e=>
  ⟨.ref s⁻¹,_,I.laid (t':=s.toks) f (Ag _) (show zJ X.prog X.w _ h' _ (.lst ys) from⟨hz,a,d,c,e⟩),rfl,q _ (I.hok.fresh (Ag _))⟩
 rcases hq with hq|hq
 ·obtain⟨a,c,i,hz⟩:=I.list hq
  have g:=c.length;obtain⟨o,j,hc,n,hd⟩:=i.isList;exact call_list_seq p (.inl rfl) j hc hd (fun h' d f e=>fin a c hz h' d f e) (by simp only[Aj]<;>omega)
 ·obtain⟨a,c,i,hz⟩:=I.tuple hq
  have g:=c.length;obtain⟨o,j,hc,n,hd⟩:=i;exact call_list_seq p (.inr rfl) j hc hd (fun h' d f e=>fin a c hz h' d f e) (by simp only[Aj]<;>omega)
def ve:df X (.type "tuple") (fun xs H Q=>∃p ys,xs=[.ref p]/\((SqL X.K H p ys/\∀l,H l=none->Q (.ref l) (upd H l (.tup ys)))\/(SqT X.K H p ys/\Q (.ref p) H))):=by
 intro aa s σ H xs us Q I r h;obtain⟨p,ys,rfl,h⟩:=h;obtain⟨u,rfl,i⟩:=vals1 r;cases i;rcases h with ⟨hq,q⟩|⟨hq,q⟩
 ·obtain⟨a,c,d,hz⟩:=I.list hq
  have f:=c.length;refine call_tuple_list d.isList (fun h' g=>?_) (by simp only[Aj]<;>omega);have I1:Inv X aa σ H {s with heap:=h'}:=I.kept (t':=s.toks) g;have j:Inv X aa σ (upd H h'.objs.size (.tup ys)) {s with heap:=h'.push {cls:=.type "tuple",data:=.seq a.toArray}}:=
   I1.laid (t':=s.toks) (fun b o e=>Ad _ e) (Ag _) (show zJ X.prog X.w _ _ _ (.tup ys) from⟨hz,a,c,IsTup.new _ _⟩)
  exact⟨.ref h'.objs.size,_,j,rfl,q _ (I1.hok.fresh (Ag _))⟩
 ·obtain⟨a,c,d,hz⟩:=I.tuple hq
  exact call_tuple_same d ⟨.ref p,H,I,rfl,q⟩
def vi(K:Af)(T:String)(x:V)(H:Hp):Prop:=match x with
 |.str _=>T="str"
 |.int _=>T="int"
 |.ref p=>(T="list"/\∃xs,SqL K H p xs)\/(T="tuple"/\∃o,K.lookup p=some o/\o.cls=.type "tuple"/\o.dict=none) \/
   (T="dict"/\((∃kvs,H p=some (.dK kvs))\/∃kvs,H p=some (.dT kvs)))\/(T="set"/\∃S n,H p=some (.set S n))
 |_=>False
def BR{aa:Ψ}{σ:St}{H:Hp}{s:Shared}{T:String}{x:V}{v:Value}(I:Inv X aa σ H s)(r:RelV x v)(ty:vi X.K T x H):s.TypeIs v T/\∀a,v=.ref a->∃ob,s.heap.get? a=some ob/\ob.dict=none:=by
 cases x with
 |str z=>
  obtain⟨t,rfl⟩:=r;cases(show T="str" from ty);exact⟨typeIs_str s z t,fun _ e=>nomatch e⟩
 |int i=>
  obtain⟨t,rfl⟩:=r;cases(show T="int" from ty);exact⟨typeIs_int s i t,fun _ e=>nomatch e⟩
 |ref p=>
  cases r;rcases ty with ⟨rfl,xs,hq⟩|⟨rfl,o,hk,hc,hd⟩|⟨rfl,hk⟩|⟨rfl,S,n,hk⟩
  ·obtain⟨d,_,b,_⟩:=I.list hq
   refine⟨b.isList.typeIs,fun a e=>?_⟩;cases e;obtain⟨o,n,e,c,hd,_⟩:=b;exact⟨o,e,hd⟩
  ·refine⟨⟨o,I.kIn p o hk,hc⟩,fun a e=>?_⟩
   cases e;exact⟨o,I.kIn _ o hk,hd⟩
  ·have z:∃o,s.heap.get? p=some o/\o.ExactDict:=by
    rcases hk with ⟨kvs,hk⟩|⟨kvs,hk⟩
    ·obtain⟨_,_,_,_,o,_,_,e,ex,_⟩:=I.hok p _ hk
     exact⟨o,e,ex⟩
    ·obtain⟨_,_,_,_,o,_,_,e,ex,_⟩:=I.hok p _ hk
     exact⟨o,e,ex⟩
   obtain⟨o,e,ex⟩:=z;refine⟨⟨o,e,ex.1⟩,fun a e2=>?_⟩;cases e2;exact⟨o,e,ex.2.1⟩
  ·obtain⟨o,_,_,_,e,ex,_⟩:=I.hok p _ hk
   refine⟨⟨o,e,ex.1⟩,fun a e2=>?_⟩;cases e2;exact⟨o,e,ex.2.1⟩
 |_=>exact False.elim ty
def vj(K:Af)(T:String)(r:V->List V->Hp->VK->Prop)(to:TE):TE:=fun σ H Q=>to σ H fun x H1=>vi K T x H1/\r x [] H1 Q
def BS(K:Af)(T:String)(r:V->List V->Hp->VK->Prop)(to:TE)(t:TA):TE:=fun σ H Q=>to σ H fun x H1=>vi K T x H1/\t σ H1 fun xs H2=>r x xs H2 Q
variable{o e:Expr}{es:List Expr}{to:TE}{t:TA}{name:Str}{a_ aG:Pos}{T id:String}{r:V->List V->Hp->VK->Prop}
def GX(e:PlainAttrs T)(slot:Slot T name id)(f:typeOf (.builtin id)=pure (.type "method_descriptor"))(hm:kN X id r)(g:PE X o to)(i:attributeBase o name X.env (eval o X.env)=eval o X.env:=by rfl)(j:(a_.endLine==aG.line)=true:=by rfl):PE X (.Call (.Attribute o name a_) [] [] aG) (vj X.K T r to):=by
 intro aa s σ H Q I h;refine wpAny_Call_method0_late i j (aP (g aa s σ H _ I h) fun v c ⟨x,H1,b,a,ty,d⟩=>?_);obtain⟨h1,h2⟩:=BR b a ty;exact⟨T,id,e,slot,f,h1,h2,Calls.callWith_builtin rfl (PySem.evalArgs_none (hm aa c σ H1 x [] v [] Q b a .nil d))⟩
def eU(p:PlainAttrs T)(slot:Slot T name id)(q:typeOf (.builtin id)=pure (.type "method_descriptor"))(hm:kN X id r)(u:PE X o to)(w:PA X (e::es) t)(y:attributeBase o name X.env (eval o X.env)=eval o X.env:=by rfl)
  (z:((backTo aG (starEach (e::es) X.env)).all (fun x=>!x.1)&&(backToKw aG (keywordEach [] X.env)).all (fun x=>x.1.isSome)
   && decide ((e::es).length+([]:List Keyword).length+(if([]:List Keyword).isEmpty then 0 else 1)<30))=true:=by rfl)
  (A:(a_.endLine==aG.line)=true:=by rfl) (hs:starEach (e::es) X.env=(false,eval e X.env)::starEach es X.env:=by rfl) (C:(backTo aG (starEach es X.env)).any (·.1)=false:=by rfl) :
  PE X (.Call (.Attribute o name a_) (e::es) [] aG) (BS X.K T r to t):=by
 intro aa s σ H Q I h;refine wpAny_Call_method_late y z A rfl (aP (u aa s σ H _ I h) fun v f ⟨x,H1,d,b,ty,g⟩=>?_);obtain⟨h1,h2⟩:=BR d b ty;refine⟨T,id,p,slot,q,h1,h2,?_⟩;have c:=w aG aa f σ H1 _ d g;rw[hs] at c ⊢;refine Calls.callWith_builtin (by show(false|| (backTo aG (starEach es X.env)).any (·.1))=false;rw[C]<;>rfl) (Calls.evalArgs_plain ?_);exact aP c fun us i ⟨vs,H2,D,j,l⟩=>hm aa i σ H2 x vs v us Q D b j l
end
def pF(X:Cx)(id:String)(r:V->List V->Hp->VK->Prop):Prop:=
 ∀(aa:Ψ)(s:Shared)(σ:St)(H:Hp)(x:V)(xs:List V)(v:Value)(us:List Value)(Q:VK),Inv X aa σ H s->RelV x v->Vals xs us->r x xs H Q->
  wpAny (model X.prog X.w) X.A (call (.builtin id) (v::us)) (EP X aa σ Q) X.xe s
def Vals.one{x:V}{us:List Value}(h:Vals [x] us):∃u,us=[u]/\RelV x u:=by
 cases h with|cons r t=>cases t;exact⟨_,rfl,r⟩
def Vals.two{x y:V}{us:List Value}(h:Vals [x,y] us):∃u v,us=[u,v]/\RelV x u/\RelV y v:=by
 cases h with|cons r t=>obtain⟨v,rfl,q⟩:=Vals.one t;exact⟨_,_,rfl,r,q⟩
def Vals.zero:∀{us:List Value},Vals [] us->us=[]
 |_,.nil=>rfl
def Vals.eraseIdx:∀{xs:List V}{us:List Value}(i:Nat),Vals xs us->Vals (xs.eraseIdx i) (us.eraseIdx i)
 |_,_,_,.nil=>.nil
 |_,_,0,.cons _ t=>t
 |_,_,i+1,.cons r t=>.cons r (Vals.eraseIdx i t)
def Vals.reverse{xs:List V}{us:List Value}(h:Vals xs us):Vals xs.reverse us.reverse:=by
 induction h with
 |nil=>exact .nil
 |cons r t ih=>rw[List.reverse_cons,List.reverse_cons];exact Vals.append ih (.cons r .nil)
section
variable{X:Cx}{aa:Ψ}{σ:St}{H:Hp}{s:Shared}{l b:Addr}{xs ys zs:List V}
def Inv.lset{a its':List Value}{n:Nat}{f:Array Value->Array Value}{t':Nat}(I:Inv X aa σ H s)(b:H l=some (.lst xs))(e:s.heap.get? l=some {cls:=.type "list",data:=.seq a.toArray n})(hf:f a.toArray=its'.toArray)(c:Vals ys its')(hz:ys.length<=sizeLine):Inv X aa σ (upd H l (.lst ys)) {s with heap:=s.heap.update l (AA f),toks:=t'}:=by
 have q:=PySem.IsL.update e f;rw[hf] at q;refine I.write (x:=l) (e:=l) (by rw[b];exact trivial) (.inl rfl) (fun d u hb hu=>(Heap.get?_update_other s.heap (AA f) (Ne.symm hb)).trans hu) ⟨_,q⟩ ?_;exact⟨hz,its',_,c,q⟩
def Inv.lnew{a:List Value}{t':Nat}(I:Inv X aa σ H s)(b:Vals ys a)(hz:ys.length<=sizeLine):Inv X aa σ (upd H s⁻¹ (.lst ys)) {s with heap:=s.heap.push {cls:=.type "list",data:=.seq a.toArray},toks:=t'}:=
 I.laid (fun _ _ q=>Ad _ q) (Ag _) ⟨hz,a,0,b,Ao _ rfl⟩
def Inv.fresh(I:Inv X aa σ H s):H s⁻¹=none:=I.hok.fresh (Ag _)
def Inv.lstM(I:Inv X aa σ H s)(b:H l=some (.lst xs)):xs.length<=sizeLine/\∃(a:List Value)(n:Nat),Vals xs a/\xs.length=a.length/\s.heap.get? l=some {cls:=.type "list",data:=.seq a.toArray n}:=by
 obtain⟨z,a,n,r,e⟩:=I.hok l _ b;exact⟨z,a,n,r,r.length,e⟩
end
section
variable{X:Cx}
def zmS:V->List V->Hp->VK->Prop:=fun x vs H Q=>∃l xs y,x=.ref l/\vs=[y]/\H l=some (.lst xs)/\xs.length<sizeLine/\Q .non (upd H l (.lst (xs++[y])))
def ig:pF X "list.append" zmS:=by
 intro aa s σ H x vs v us Q I c d h;obtain⟨l,xs,y,rfl,rfl,a,hz,q⟩:=h;cases c;obtain⟨u,rfl,f⟩:=d.one;obtain⟨z,b,n,r,hl,e⟩:=I.lstM a;refine call_meets F.slot_list_append ⟨_,e,rfl⟩ F.entry_list_append (F.args_list_append_2 _ _) (PySem.list_append l b.toArray n u (by rw[Aj];omega)) ⟨e,?_⟩;refine⟨.non,_,I.lset (its':=b++[u]) a e (by simp) (r.append (.cons f .nil)) ?_,rfl,q⟩;rw[Ai,List.length_singleton];omega
def vk:R2:=fun x y H Q=>∃l b xs zs,x=.ref l/\y=.ref b/\H l=some (.lst xs)/\H b=some (.lst zs)/\xs.length+zs.length<=sizeLine/\∀p,H p=none->Q (.ref p) (upd H p (.lst (xs++zs)))
def mw:cb X (binaryOp .Add) vk:=by
 intro aa s σ H x y v u Q I d f h;obtain⟨l,b,xs,zs,rfl,rfl,g,i,hz,q⟩:=h;cases d;cases f;obtain⟨z,a,n,r,hl,e⟩:=I.lstM g;obtain⟨z2,c,n2,j,o,e2⟩:=I.lstM i;refine PySem.P.add_list e e2 ?_ (by rw[Aj,Aj];omega);have p:a.toArray++c.toArray=(a++c).toArray:=by simp
 rw[p];exact⟨.ref _,_,I.lnew (t':=s.toks) (r.append j) (by rw[Ai];omega),rfl,q _ I.fresh⟩
end
section
variable{prog:Program}{w:World}{A:Around}{E:Ω}{s:Shared}
set_option maxRecDepth 100000 in
end
section
variable{κ:Type}[DecidableEq κ]
def aU(kvs:List (κ×V))(k:κ):Option V:=(kvs.find? fun kv=>decide (kv.1=k)).map (·.2)
def putK(kvs:List (κ×V))(k:κ)(v:V):List (κ×V):=
 if(kvs.any fun kv=>decide (kv.1=k))=true then kvs.map (fun kv=>if kv.1=k then(kv.1,v) else kv) else kvs++[(k,v)]
def M7(kvs:List (κ×V))(k:κ):List (κ×V):=kvs.filter fun kv=>decide (kv.1≠k)
def pH{p:κ×V}{r:List (κ×V)}{k:κ}(e:p.1=k):aU (p::r) k=some p.2:=by simp[aU,List.find?_cons,e]
def pJ{p:κ×V}{r:List (κ×V)}{k:κ}(e:¬p.1=k):aU (p::r) k=aU r k:=by simp[aU,List.find?_cons,e]
def kO(k:κ):∀kvs:List (κ×V),(kvs.any fun kv=>decide (kv.1=k))=(aU kvs k).isSome
 |[]=>rfl
 |p::r=>by
  rw[List.any_cons]
  by_cases e:p.1=k
  ·simp only[pH e,decide_eq_true e,Bool.true_or,Option.isSome_some]
  ·rw[pJ e,decide_eq_false e,Bool.false_or];exact kO k r
def mx(kvs:List (κ×V))(k:κ)(v:V):(putK kvs k v).length<=kvs.length+1:=by
 unfold putK;split
 ·rw[Aa];omega
 ·rw[Ai,An,List.length_nil];omega
def BU{kvs:List (κ×V)}{k:κ}(v:V)(h:aU kvs k=none):putK kvs k v=kvs++[(k,v)]:=by
 unfold putK;rw[kO,h];exact if_neg ξ
def RelO.isSome_eq{o:Option V}{u:Option Value}(r:RelO o u):o.isSome=u.isSome:=by
 cases o with
 |none=>cases u with
  |none=>rfl
  |some _=>exact(show False from r).elim
 |some _=>cases u with
  |none=>exact(show False from r).elim
  |some _=>rfl
def RelO.getD{o:Option V}{u:Option Value}{d:V}{d':Value}(r:RelO o u)(a:RelV d d'):RelV (o.getD d) (u.getD d'):=by
 cases o with
 |none=>cases u with
  |none=>exact a
  |some _=>exact(show False from r).elim
 |some _=>cases u with
  |none=>exact(show False from r).elim
  |some _=>exact r
def KV.val{kvs:List (κ×V)}{vs:List (κ×Value)}(r:KV kvs vs)(k:κ):RelO (aU kvs k) (valueAt vs k):=by
 unfold KV at r
 induction r with
 |nil=>exact True.intro
 |@cons p q ps a h t d=>
  obtain⟨h1,h2⟩:=h
  by_cases e:p.1=k
  ·have c:q.1=k:=h1.symm.trans e
   have b:valueAt (q::a) k=some q.2:=by simp[valueAt,List.find?_cons,c]
   rw[pH e,b];exact h2
  ·have c:¬q.1=k:=fun z=>e (h1.trans z)
   have b:valueAt (q::a) k=valueAt a k:=by simp[valueAt,List.find?_cons,c]
   rw[pJ e,b];exact d
def KV.any{kvs:List (κ×V)}{vs:List (κ×Value)}(r:KV kvs vs)(k:κ):(kvs.any fun kv=>decide (kv.1=k))=vs.any fun kv=>decide (kv.1=k):=by
 unfold KV at r
 induction r with
 |nil=>rfl
 |cons h t ih=>rw[List.any_cons,List.any_cons,ih,h.1]
def KV.repl{kvs:List (κ×V)}{vs:List (κ×Value)}(r:KV kvs vs)(k:κ){y:V}{u:Value}(a:RelV y u):KV (kvs.map fun kv=>if kv.1=k then(kv.1,y) else kv) (vs.map fun kv=>if kv.1=k then(kv.1,u) else kv):=by
 unfold KV at r ⊢
 induction r with
 |nil=>exact .nil
 |@cons p q ps qs h t ih=>
  rw[Av,Av];refine .cons ?_ ih;obtain⟨h1,h2⟩:=h
  by_cases e:p.1=k
  ·rw[if_pos e,if_pos (h1.symm.trans e)];exact⟨h1,a⟩
  ·rw[if_neg e,if_neg (fun z=>e (h1.trans z))];exact⟨h1,h2⟩
def KV.put{kvs:List (κ×V)}{vs:List (κ×Value)}(r:KV kvs vs)(k:κ){y:V}{u:Value}(a:RelV y u):KV (putK kvs k y) (stored vs k u):=by
 unfold putK stored;rw[r.any k]
 by_cases e:(vs.any fun kv=>decide (kv.1=k))=true
 ·rw[if_pos e,if_pos e];exact r.repl k a
 ·rw[if_neg e,if_neg e];exact Paired.snoc r ⟨rfl,a⟩
def KV.length{kvs:List (κ×V)}{vs:List (κ×Value)}(r:KV kvs vs):kvs.length=vs.length:=AZ r
end
def jo{P:Program}{w:World}{k:Key}{u:Value}(r:RelV (kV k) u):(zo P w).is k u=true:=by
 cases k with
 |inl i=>obtain⟨t,e⟩:=(show ∃t,u=Value.int i t from r);subst e;exact tE P w i t
 |inr x=>obtain⟨t,e⟩:=(show ∃t,u=Value.str x t from r);subst e;exact FO P w x t
def BV{P:Program}{w:World}:∀{ks:List Key}{us:List Value},Vals (ks.map kV) us->ItemsAre (zo P w) ks us
 |[],_,r=>by rw[List.map_nil] at r;cases r;exact .nil
 |k::ks,_,r=>by
  rw[Av] at r;cases r with
  |cons h t=>exact .cons (jo h) (BV t)
abbrev KT(H:Hp):List (List Key×V)->List (List Key×Addr×Value)->Prop:=Paired fun p q=>p.1=q.1/\H q.2.1=some (.tup (p.1.map kV))/\RelV p.2 q.2.2
def KT.val{H:Hp}{kvs:List (List Key×V)}{xs:List (List Key×Addr×Value)}(r:KT H kvs xs)(k:List Key):RelO (aU kvs k) ((atKey xs k).map (·.2)):=by
 induction r with
 |nil=>exact True.intro
 |@cons p q ps a h t d=>
  obtain⟨h1,_,h2⟩:=h
  by_cases e:p.1=k
  ·have c:q.1=k:=h1.symm.trans e
   have b:atKey (q::a) k=some q.2:=by simp[atKey,List.find?_cons,c]
   rw[pH e,b];exact h2
  ·have c:¬q.1=k:=fun z=>e (h1.trans z)
   have b:atKey (q::a) k=atKey a k:=by simp[atKey,List.find?_cons,c]
   rw[pJ e,b];exact d
def KT.repl{H:Hp}{kvs:List (List Key×V)}{xs:List (List Key×Addr×Value)}(r:KT H kvs xs)(k:List Key){y:V}{u:Value}(a:RelV y u):KT H (kvs.map fun kv=>if kv.1=k then(kv.1,y) else kv) (xs.map (putAt k u)):=by
 induction r with
 |nil=>exact .nil
 |@cons p q ps qs h t ih=>
  rw[Av,Av];refine .cons ?_ ih;obtain⟨h1,h2,h3⟩:=h;unfold putAt
  by_cases e:p.1=k
  ·rw[if_pos e,if_pos (h1.symm.trans e)];exact⟨h1,h2,a⟩
  ·rw[if_neg e,if_neg (fun z=>e (h1.trans z))];exact⟨h1,h2,h3⟩
def KT.put{H:Hp}{kvs:List (List Key×V)}{xs:List (List Key×Addr×Value)}(r:KT H kvs xs)(k:List Key){b:Addr}{y:V}{u:Value}(hb:H b=some (.tup (k.map kV)))(a:RelV y u):KT H (putK kvs k y) (storedH xs k b u):=by
 have e:(kvs.any fun kv=>decide (kv.1=k))=(atKey xs k).isSome:=by
  rw[kO,(r.val k).isSome_eq,Option.isSome_map]
 unfold putK storedH;rw[e]
 by_cases q:(atKey xs k).isSome=true
 ·rw[if_pos q,if_pos q];exact r.repl k a
 ·rw[if_neg q,if_neg q];exact Paired.snoc r ⟨rfl,hb,a⟩
def KT.keeps{H H':Hp}{kvs:List (List Key×V)}{xs:List (List Key×Addr×Value)}(r:KT H kvs xs)(a:∀b ys,H b=some (.tup ys)->H' b=some (.tup ys)):KT H' kvs xs:=
 Paired.mapP r fun _ _ z=>⟨z.1,a _ _ z.2.1,z.2.2⟩
section
variable{P:Program}{w:World}{H:Hp}{h:Heap}{a:Addr}
def BW{u:HO}(ok:HOk P w H h)(e:Rd H a u):zJ P w H h a u:=e.ok ok
def jr{kvs:List (Key×V)}(ok:HOk P w H h)(e:Rd H a (.dK kvs)):kvs.length<=sizeLine/\(a==Be)=false/\∃vs,KV kvs vs/\h.DictOf (zo P w) a vs:=
 show zJ P w H h a (.dK kvs) from BW ok e
def kU{kvs:List (Key×V)}(ok:HOk P w H h)(e:H a=some (.dK kvs)):kvs.length<=sizeLine/\(a==Be)=false/\∃vs,KV kvs vs/\h.DictOf (zo P w) a vs:=jr ok (.inl e)
def ij{ks:List Key}(ok:HOk P w H h)(e:H a=some (.tup (ks.map kV))):(Bd (zo P w)).is h ks a:=by
 obtain⟨_,b,r,o,h1,h2,n,h3⟩:=(show zJ P w H h a (.tup (ks.map kV)) from ok a _ e);exact⟨o,b.toArray,n,h1,h2,h3,by simpa using BV r⟩
def jx{kvs:List (List Key×V)}(ok:HOk P w H h)(e:Rd H a (.dT kvs)):kvs.length<=sizeLine/\(a==Be)=false/\
  ∃xs,KT H kvs xs/\h.DictOfH (Bd (zo P w)) a xs:=by
 obtain⟨z,y,xs,r,o,es,ep,h1,h2,h3,b,h5⟩:=(show zJ P w H h a (.dT kvs) from BW ok e);refine⟨z,y,xs,r,o,es,ep,h1,h2,h3,b,fun x hx=>?_,h5⟩;have all:∀{l:List (List Key×V)}{m:List (List Key×Addr×Value)},KT H l m->∀x∈m,(Bd (zo P w)).is h x.1 x.2.1:=by
  intro l m q
  induction q with
  |nil=>intro x hx;exact nomatch hx
  |@cons p q ps qs hq t ih=>
   intro x hx;rcases List.mem_cons.mp hx with e|hx
   ·subst e
    exact ij ok (by rw[<-hq.1];exact hq.2.1)
   ·exact ih x hx
 exact all r x hx
def vl{kvs:List (List Key×V)}(ok:HOk P w H h)(e:H a=some (.dT kvs)):kvs.length<=sizeLine/\(a==Be)=false/\
  ∃xs,KT H kvs xs/\h.DictOfH (Bd (zo P w)) a xs:=jx ok (.inl e)
end
def DGet(H:Hp)(a:Addr)(y:V)(r:Option V):Prop:=
 (∃kvs k,Rd H a (.dK kvs)/\y=kV k/\r=aU kvs k)\/∃kvs k b,Rd H a (.dT kvs)/\y=.ref b/\H b=some (.tup (k.map kV))/\r=aU kvs k
def DPut(H:Hp)(a:Addr)(y v:V)(H':Hp):Prop:=
 (∃kvs k,H a=some (.dK kvs)/\y=kV k/\kvs.length<sizeLine/\H'=upd H a (.dK (putK kvs k v))) \/
 ∃kvs k b,H a=some (.dT kvs)/\y=.ref b/\H b=some (.tup (k.map kV))/\kvs.length<sizeLine/\H'=upd H a (.dT (putK kvs k v))
def DGet.k{H:Hp}{a:Addr}{kvs:List (Key×V)}{k:Key}(e:H a=some (.dK kvs)):DGet H a (kV k) (aU kvs k):=.inl ⟨kvs,k,.inl e,rfl,rfl⟩
def DGet.t{H:Hp}{a b:Addr}{kvs:List (List Key×V)}{k:List Key}(e:H a=some (.dT kvs))(c:H b=some (.tup (k.map kV))):DGet H a (.ref b) (aU kvs k):=.inr ⟨kvs,k,b,.inl e,rfl,c,rfl⟩
def DPut.k{H:Hp}{a:Addr}{kvs:List (Key×V)}{k:Key}{v:V}(e:H a=some (.dK kvs))(hl:kvs.length<sizeLine):DPut H a (kV k) v (upd H a (.dK (putK kvs k v))):=.inl ⟨kvs,k,e,rfl,hl,rfl⟩
def DPut.t{H:Hp}{a b:Addr}{kvs:List (List Key×V)}{k:List Key}{v:V}(e:H a=some (.dT kvs))(c:H b=some (.tup (k.map kV)))(hl:kvs.length<sizeLine):DPut H a (.ref b) v (upd H a (.dT (putK kvs k v))):=.inr ⟨kvs,k,b,e,rfl,c,hl,rfl⟩
section
variable{X:Cx}{aa:Ψ}{σ:St}{H:Hp}{s:Shared}{a:Addr}{y v:V}{u r:Value}{o:Option V}{A:Around}{E:Ω}
def Inv.big(I:Inv X aa σ H s):Be<s⁻¹:=by
 have h:mainGlobals<s⁻¹:=(I.mod.glob.keeps I.bk).lt;exact Nat.lt_trans ξ h
def GY{Q:Ω}(hu:A.units+1<cLine)(I:Inv X aa σ H s)(g:DGet H a y (some v))(j:RelV y u)(h:∀d s',Inv X aa σ H s'->RelV v d->Q d s'):wpAny (model X.prog X.w) A (getItem (.ref a) u) Q E s:=by
 rcases g with ⟨kvs,k,e,f,l⟩|⟨kvs,k,b,e,f,q,l⟩
 ·subst f
  obtain⟨z,hd,vs,c,dd⟩:=jr I.hok e;obtain⟨d,hw,i⟩:=RelO.some_of (v:=v) (o:=valueAt vs k) (by rw[l];exact c.val k);exact wpAny_getItem_of (jo j) dd.mapOf hw (h d _ (I.tok _) i)
 ·subst f
  cases(show u=Value.ref b from j);obtain⟨z,hd,xs,c,dd⟩:=jx I.hok e;obtain⟨d,hw,i⟩:=RelO.some_of (v:=v) (o:=(atKey xs k).map (·.2)) (by rw[l];exact c.val k);obtain⟨p,hp,r⟩:=Option.map_eq_some_iff.mp hw;refine wpAny_getItem_heap (tupleKind_room_in1 hu) (ij I.hok q) dd hp ?_;rw[r];exact h d _ (I.tok _) i
def vn{Q:Ω}(hu:A.units+1<cLine)(I:Inv X aa σ H s)(g:DGet H a y o)(f:RelV y u)(h:∀s',Inv X aa σ H s'->Q (.bool o.isSome) s'):wpAny (model X.prog X.w) A (compareOp .In u (.ref a)) Q E s:=by
 rcases g with ⟨kvs,k,e,d,l⟩|⟨kvs,k,b,e,d,i,l⟩
 ·subst d
  obtain⟨z,hd,vs,c,dd⟩:=jr I.hok e;refine wpAny_in_of (jo f) hd dd.mapOf ?_;rw[<-(c.val k).isSome_eq,<-l];exact h _ (I.tok _)
 ·subst d
  cases(show u=Value.ref b from f);obtain⟨z,hd,xs,c,dd⟩:=jx I.hok e;refine wpAny_in_heap (tupleKind_room_in1 hu) (ij I.hok i) hd dd ?_;have q:=(c.val k).isSome_eq;rw[Option.isSome_map] at q;rw[<-q,<-l];exact h _ (I.tok _)
def GZ{Q:Ω}(hu:A.units+1<cLine)(I:Inv X aa σ H s)(g:DGet H a y o)(f:RelV y u)(h:∀s',Inv X aa σ H s'->Q (.bool (!o.isSome)) s'):wpAny (model X.prog X.w) A (compareOp .NotIn u (.ref a)) Q E s:=by
 rcases g with ⟨kvs,k,e,d,l⟩|⟨kvs,k,b,e,d,i,l⟩
 ·subst d
  obtain⟨z,hd,vs,c,dd⟩:=jr I.hok e;refine wpAny_notIn_of (jo f) hd dd.mapOf ?_;rw[<-(c.val k).isSome_eq,<-l];exact h _ (I.tok _)
 ·subst d
  cases(show u=Value.ref b from f);obtain⟨z,hd,xs,c,dd⟩:=jx I.hok e;refine wpAny_notIn_heap (tupleKind_room_in1 hu) (ij I.hok i) hd dd ?_;have q:=(c.val k).isSome_eq;rw[Option.isSome_map] at q;rw[<-q,<-l];exact h _ (I.tok _)
def kY{h':Heap}{t':Nat}{ob:HO}(I:Inv X aa σ H s)(c:lR (H a))(hs:A6 a s.heap h')(he:∃q,h'.get? a=some q)(new:zJ X.prog X.w (upd H a ob) h' a ob):Inv X aa σ (upd H a ob) {s with heap:=h',toks:=t'}:=
 I.write (x:=a) (e:=a) c (.inl rfl) (fun b q hb z=>(hs.2 b hb).trans z) he new
def dk_new{P:Program}{w:World}{H':Hp}{h':Heap}{kvs:List (Key×V)}{vs:List (Key×Value)}(z:kvs.length<=sizeLine)(hd:(a==Be)=false)(b:KV kvs vs)(dd:h'.DictOf (zo P w) a vs):zJ P w H' h' a (.dK kvs):=⟨z,hd,vs,b,dd⟩
def G0{H':Hp}{Q:Unit->Shared->Prop}(hu:A.units+1<cLine)(I:Inv X aa σ H s)(g:DPut H a y v H')(C:RelV y u)(o:RelV v r)(h:∀s',Inv X aa σ H' s'->Q () s'):wpAny (model X.prog X.w) A (setItem (.ref a) u r) Q E s:=by
 rcases g with ⟨kvs,k,e,i,l,j⟩|⟨kvs,k,b,e,i,p,l,j⟩
 ·subst i j
  obtain⟨z,hd,vs,d,dd⟩:=kU I.hok e;have hz:vs.length<=sizeLine:=by rw[<-d.length];exact z
  have hl:(putK kvs k v).length<=sizeLine:=by have:=mx kvs k v;omega
  refine wpAny_setItem_pairs (hsz:=hz) (jo C) dd fun h' f hs=>h _ ?_;have he:∃q,h'.get? a=some q:=let ⟨q,_,_,hq,_⟩:=f;⟨q,hq⟩;exact kY I (by rw[e];exact True.intro) hs he (dk_new hl hd (d.put k o) f)
 ·subst i j
  cases(show u=Value.ref b from C);obtain⟨z,hd,xs,d,dd⟩:=vl I.hok e;have hz:xs.length<=sizeLine:=by rw[<-AZ d];exact z
  have hl:(putK kvs k v).length<=sizeLine:=by have:=mx kvs k v;omega
  refine wpAny_setItem_heap (hsz:=hz) (tupleKind_room_in1 hu) (ij I.hok p) dd fun h' f hs=>h _ ?_;obtain⟨q,es,ep,hq,h2,h3,D,_,h5⟩:=f;refine kY I (by rw[e];exact True.intro) hs ⟨q,hq⟩ ⟨hl,hd,_,(d.put k p o).keeps fun c ys x=>?_,q,es,ep,hq,h2,h3,D,h5⟩;rw[ab (aF x e (fun z=>nomatch z))];exact x
end
def my(i:Expr):Prop:=∀a b,subscripted i false a b=operate [a,b] (getItem a b)
def G1{prog:Program}{w:World}{A:Around}{E:Ω}{s:Shared}{env:Env}{aM slice:Expr}{pos:Pos}{T id:String}{Q:Ω}(hl:typeLookup (.type T) "__getitem__"=pure (some (.builtin id)))(hs:my slice)(h:wpAny (model prog w) A (eval aM env) (fun o b=>wpAny (model prog w) A (eval slice env) (fun i s₂=>s₂.TypeIs o T/\wpAny (model prog w) A (getItem o i) Q E s₂) E b) E s):wpAny (model prog w) A (eval (.Subscript aM slice pos) env) Q E s:=by
 refine Subscript_ (wpAny_mono h (fun o b e=>wpAny_mono e (fun i s₂ a=>?_) fun _ _ x=>x) fun _ _ x=>x);obtain⟨d,a⟩:=a;unfold subscriptTail;refine Ab ?_;rw[getitemInPython_of_ne d.not_modules];refine Ab (wpAny_specialOf d hl ?_);have fin:wpAny (model prog w) A (subscripted slice false o i) (fun r c=>wpAny (model prog w) A (letTemporaryGo aM o r >>= fun _=>pure r) Q E c) E s₂:=by
  rw[hs o i];exact wpAny_operating (wpAny_mono a (fun r c f=>Ab (wpAny_letTemporaryGo (Ac f))) fun _ _ x=>x)
 first
  |exact Ac (Ab fin)
  |exact Ab (Ac (Ab fin))
  |exact Ab fin
def G2{X:Cx}{aa:Ψ}{σ:St}{H:Hp}{s:Shared}{a:Addr}{y:V}{o:Option V}(I:Inv X aa σ H s)(g:DGet H a y o):s.TypeIs (.ref a) "dict":=by
 rcases g with ⟨kvs,k,e,_,_⟩|⟨kvs,k,b,e,_,_,_⟩
 ·obtain⟨_,_,vs,_,dd⟩:=jr I.hok e
  exact dd.typeIs
 ·obtain⟨_,_,xs,_,dd⟩:=jx I.hok e
  exact dd.typeIs
def iP(td ty:TE):TE:=fun σ H Q=>td σ H fun x H1=>ty σ H1 fun y H2=>∃a v,x=.ref a/\DGet H2 a y (some v)/\Q v H2
def vr(ty td:TE):TE:=fun σ H Q=>ty σ H fun y H1=>td σ H1 fun x H2=>∃a o,x=.ref a/\DGet H2 a y o/\Q (.bl o.isSome) H2
def vu(ty td:TE):TE:=fun σ H Q=>ty σ H fun y H1=>td σ H1 fun x H2=>∃a o,x=.ref a/\DGet H2 a y o/\Q (.bl (!o.isSome)) H2
def G3(td ty tv:TE):TS:=fun D σ H=>tv σ H fun v H1=>td σ H1 fun x H2=>ty σ H2 fun y c=>∃a b,x=.ref a/\DPut c a y v b/\D.nx σ b
section
variable{X:Cx}{o i e aM:Expr}{pos aX eE:Pos}{td ty tv:TE}
def zP(hu:X.A.units+1<cLine)(p:PE X o td)(hi:PE X i ty)(hs:my i):PE X (.Subscript o i pos) (iP td ty):=by
 intro aa s σ H Q I h;refine G1 PySem.F.slot_dict_getitem.lookup hs (aP (p aa s σ H _ I h) fun u c ⟨x,H1,q,d,e⟩=>aP (hi aa c σ H1 _ q e) fun w z ⟨y,H2,b,f,a,v,ex,g,j⟩=>?_);subst ex;obtain rfl:u=Value.ref a:=d;exact⟨G2 b g,GY hu b g f fun C D r l=>⟨v,H2,r,l,j⟩⟩
def G4(hu:X.A.units+1<cLine)(hi:PE X i ty)(l:PE X o td):PC X .In i o (vr ty td):=by
 intro aa s σ H Q I h;refine aP (hi aa s σ H _ I h) fun v b ⟨y,H1,p,c,d⟩=>aP (l aa b σ H1 _ p d) fun u w ⟨x,H2,q,e,a,f,ex,g,j⟩=>?_;subst ex;obtain rfl:u=Value.ref a:=e;exact vn hu q g c fun z r=>⟨.bl f.isSome,H2,r,rfl,j⟩
def G5(hu:X.A.units+1<cLine)(hi:PE X i ty)(l:PE X o td):PC X .NotIn i o (vu ty td):=by
 intro aa s σ H Q I h;refine aP (hi aa s σ H _ I h) fun v b ⟨y,H1,p,c,d⟩=>aP (l aa b σ H1 _ p d) fun u w ⟨x,H2,q,e,a,f,ex,g,j⟩=>?_;subst ex;obtain rfl:u=Value.ref a:=e;exact GZ hu q g c fun z r=>⟨.bl (!f.isSome),H2,r,rfl,j⟩
def ik(hu:X.A.units+1<cLine)(q:PE X o td)(hi:PE X i ty)(w:PE X aM tv)(hs:swapsWith aM (some (.Subscript o i aX)) pos.line X.env=pure false):PS X (.Assign [.Subscript o i aX] aM pos) (G3 td ty tv):=by
 intro aa s σ H D I h;refine wpAny_Assign_Subscript (aP (w aa s σ H _ I h) fun r b ⟨v,H1,z,c,d⟩=>aP (q aa b σ H1 _ z d) fun u e ⟨x,H2,C,f,j⟩=>aP (hi aa e σ H2 _ C j) fun J L ⟨y,N,E,l,a,F,ex,g,p⟩=>?_) hs;subst ex;obtain rfl:u=Value.ref a:=f;exact G0 hu E g l c fun M G=>⟨σ,F,G,p⟩
end
def G6{P:Program}{w:World}{H:Hp}(h:Heap)(hb:Be<h.objs.size):zJ P w H (h.push {cls:=.type "dict",data:=.dict #[]}) h.objs.size (.dK []):=
 ⟨AL _,beq_eq_false_iff_ne.mpr (Ne.symm (Az hb)),[],.nil,Heap.DictOf.new h⟩
def BX{P:Program}{w:World}{H:Hp}(h:Heap)(hb:Be<h.objs.size):zJ P w H (h.push {cls:=.type "dict",data:=.dict #[]}) h.objs.size (.dT []):=
 ⟨AL _,beq_eq_false_iff_ne.mpr (Ne.symm (Az hb)),[],.nil,_,#[],0,Ao _ rfl,⟨rfl,rfl,rfl⟩,rfl,rfl,A7⟩
def G7:TE:=fun _ H Q=>∀p,H p=none->Q (.ref p) (upd H p (.dK []))
def G8:TE:=fun _ H Q=>∀p,H p=none->Q (.ref p) (upd H p (.dT []))
section
variable{X:Cx}{pos:Pos}
def pL:PE X (.Dict [] [] pos) G7:=fun aa s σ H Q I h=>
 wpAny_Dict_empty ⟨.ref s⁻¹,_,I.laid (a:=s⁻¹) (o:=.dK []) (t':=s.toks) (fun _ _ q=>Ad _ q) (Ag _) (G6 s.heap I.big),rfl,h _ (I.hok.fresh (Ag _))⟩
def iQ:PE X (.Dict [] [] pos) G8:=fun aa s σ H Q I h=>
 wpAny_Dict_empty ⟨.ref s⁻¹,_,I.laid (a:=s⁻¹) (o:=.dT []) (t':=s.toks) (fun _ _ q=>Ad _ q) (Ag _) (BX s.heap I.big),rfl,h _ (I.hok.fresh (Ag _))⟩
end
def vz:List (TE×TE)->St->Hp->(List (V×V)->Hp->Prop)->Prop
 |[],_,H,Q=>Q [] H
 |(tk,tv)::r,σ,H,Q=>tk σ H fun x H1=>tv σ H1 fun y H2=>vz r σ H2 fun ps a=>Q ((x,y)::ps) a
abbrev VV:List (V×V)->List (Value×Value)->Prop:=Paired fun p q=>RelV p.1 q.1/\RelV p.2 q.2
def vC(X:Cx)(pos:Pos)(a:List (Option Expr))(b:List Expr)(c:List (TE×TE)):Prop:=
 ∀(aa:Ψ)(s:Shared)(σ:St)(H:Hp)(Q:List (V×V)->Hp->Prop),Inv X aa σ H s->vz c σ H Q->
  wpAny (model X.prog X.w) X.A (evalPairs (pairTrees a b X.env pos)) (fun vs s'=>∃ps H',Inv X aa σ H' s'/\VV ps vs/\Q ps H') X.xe s
def G9{X:Cx}{pos:Pos}:vC X pos [] [] []:=fun aa s σ H Q I h=>pairTrees_nil_walk ⟨[],H,I,.nil,h⟩
def G_{X:Cx}{pos:Pos}{k v:Expr}{ks:List (Option Expr)}{vs:List Expr}{tk tv:TE}{b:List (TE×TE)}(hk:PE X k tk)(l:PE X v tv)(hr:vC X pos ks vs b):vC X pos (some k::ks) (v::vs) ((tk,tv)::b):=fun aa s σ H Q I h=>
 pairTrees_cons_walk (aP (hk aa s σ H _ I h) fun u c ⟨x,H1,o,d,e⟩=>aP (l aa c σ H1 _ o e) fun w f ⟨y,H2,p,g,i⟩=>
  aP (hr aa f σ H2 _ p i) fun z A ⟨ps,q,r,a,j⟩=>⟨(x,y)::ps,q,r,.cons ⟨d,g⟩ a,j⟩)
structure M1(X:Cx)(o:Expr)(m:Str)(a_:Pos)(e:Expr)(aG:Pos):Prop where
 base:attributeBase o m X.env (eval o X.env)=eval o X.env
 few:((backTo aG (starEach [e] X.env)).all (fun x=>!x.1)&&(backToKw aG (keywordEach [] X.env)).all (fun x=>x.1.isSome)
  && decide (([e]:List Expr).length+([]:List Keyword).length+(if([]:List Keyword).isEmpty then 0 else 1)<30))=true
 line:(a_.endLine==aG.line)=true
 trees:backTo aG (starEach [e] X.env)=[(false,eval e X.env)]
structure M2(X:Cx)(o:Expr)(m:Str)(a_:Pos)(e f:Expr)(aG:Pos):Prop where
 base:attributeBase o m X.env (eval o X.env)=eval o X.env
 few:((backTo aG (starEach [e,f] X.env)).all (fun x=>!x.1)&&(backToKw aG (keywordEach [] X.env)).all (fun x=>x.1.isSome)
  && decide (([e,f]:List Expr).length+([]:List Keyword).length+(if([]:List Keyword).isEmpty then 0 else 1)<30))=true
 line:(a_.endLine==aG.line)=true
 trees:backTo aG (starEach [e,f] X.env)=[(false,eval e X.env),(false,eval f X.env)]
def IsD(H:Hp)(a:Addr):Prop:=(∃kvs,Rd H a (.dK kvs))\/∃kvs,Rd H a (.dT kvs)
def G'{X:Cx}{aa:Ψ}{σ:St}{H:Hp}{s:Shared}{a:Addr}(I:Inv X aa σ H s)(d:IsD H a):s.TypeIs (.ref a) "dict"/\(∀b,Value.ref a=.ref b->∃ob,s.heap.get? b=some ob/\ob.dict=none)/\(a==Be)=false:=by
 rcases d with ⟨kvs,e⟩|⟨kvs,e⟩
 ·obtain⟨_,hd,vs,_,dd⟩:=jr I.hok e
  refine⟨dd.typeIs,fun b q=>?_,hd⟩;cases q;obtain⟨ob,_,_,h1,h2,_⟩:=dd;exact⟨ob,h1,h2.2.1⟩
 ·obtain⟨_,hd,xs,_,dd⟩:=jx I.hok e
  refine⟨dd.typeIs,fun b q=>?_,hd⟩;cases q;obtain⟨ob,_,_,h1,h2,_⟩:=dd;exact⟨ob,h1,h2.2.1⟩
section
variable{X:Cx}{aa:Ψ}{σ:St}{H:Hp}{s:Shared}{a:Addr}{y d:V}{u r:Value}{o:Option V}{A:Around}{E:Ω}
def Ha{Q:Ω}(hu:A.units+1<cLine)(I:Inv X aa σ H s)(g:DGet H a y o)(j:RelV y u)(p:RelV d r)(h:∀i s',Inv X aa σ H s'->RelV (o.getD d) i->Q i s'):wpAny (model X.prog X.w) A (call (.builtin "dict.get") [.ref a,u,r]) Q E s:=by
 rcases g with ⟨kvs,k,e,f,l⟩|⟨kvs,k,b,e,f,q,l⟩
 ·subst f
  obtain⟨z,hd,vs,c,dd⟩:=jr I.hok e;refine call_meetsIn PySem.F.slot_dict_get dd.typeIs PySem.F.entry_dict_get (PySem.F.args_dict_get_3 _ _ _) (meets_dict_get_default (zo X.prog X.w) a (jo j) hd r) ⟨_,dd.mapOf,h _ _ (I.tok _) ?_⟩;rw[l];exact(c.val k).getD p
 ·subst f
  cases(show u=Value.ref b from j);obtain⟨z,hd,xs,c,dd⟩:=jx I.hok e;refine call_meetsIn PySem.F.slot_dict_get dd.typeIs PySem.F.entry_dict_get (PySem.F.args_dict_get_3 _ _ _) (meetsH_dict_get_default (Bd (zo X.prog X.w)) a b hd r) ⟨tupleKind_room_in1 hu,k,xs,ij I.hok q,dd,h _ _ (I.tok _) ?_⟩;rw[l];exact(c.val k).getD p
end
def BY(td ty tx:TE):TE:=fun σ H Q=>td σ H fun x H1=>∃a,x=.ref a/\IsD H1 a/\ty σ H1 fun y H2=>tx σ H2 fun z b=>∃o,DGet b a y o/\Q (o.getD z) b
section
variable{X:Cx}{o e f:Expr}{a_ aG:Pos}{td ty tx:TE}
def vN(hu:X.A.units+1<cLine)(E:PE X o td)(he:PE X e ty)(hf:PE X f tx)(m:M2 X o "get" a_ e f aG):PE X (.Call (.Attribute o "get" a_) [e,f] [] aG) (BY td ty tx):=by
 intro aa s σ H Q I h;refine wpAny_Call_method m.base m.few m.line PySem.F.plainAttrs_dict PySem.F.slot_dict_get PySem.F.type_dict_get (aP (E aa s σ H _ I h) fun u c ⟨x,H1,b,i,a,ex,d,j⟩=>?_);subst ex;obtain rfl:u=Value.ref a:=i;obtain⟨C,D,_⟩:=G' b d;refine⟨C,D,?_⟩;rw[m.trees];refine Calls.callWith_builtin rfl (Calls.evalArgs_plain (Calls.spliced_cons (aP (he aa c σ H1 _ b j) fun N l ⟨y,H2,G,p,q⟩=>
  Calls.spliced_cons (aP (hf aa l σ H2 _ G q) fun O P ⟨z,J,L,r,S,g,v⟩=>Calls.spliced_nil ?_))))
 exact Ha hu L g p r fun T U M w=>⟨_,J,M,w,v⟩
end
end L2
namespace Att
open PySem PySem.W PySem.Calls PyProof.Rows
def Hb{P:Params}{h:Heap}:∀(c:List Int)(vs:List Value),WellAll P h vs (c.map WData.int)->IntsAre vs c:=by
 intro c
 induction c with
 |nil=>
  intro vs w;rw[List.map_nil] at w;cases w;exact .nil
 |cons n c ih=>
  intro vs w;rw[Av] at w;cases w with
  |cons a b=>
   cases a;exact .cons _ _ (ih _ b)
def Hc{l:OpenLaw}{n:Nat}(hn:l.most=some n){P:Params}{h:Heap}{args:List WData}{vals:List Value}(g:l.row.toRowW.claim.pre args=true)(j:WellAll P h vals args):∃a vs b,vals=[Value.ref a]/\args=[WData.list (b.map WData.int)]/\h.get? a=some {cls:=.type "list",data:=.seq vs.toArray}/\IntsAre vs b/\b.length<=n:=by
 have f:WShape.hasAll [] args [.list .int]=true:=(pre_splitW g).1;have hc:l.pre.holds [] {args:=args}=true:=(pre_splitW g).2;obtain⟨d,r,rfl,h1,h2⟩:=hasAllW_cons f;obtain rfl:=hasAllW_nil h2;obtain⟨xs,rfl,h3⟩:=hasW_list h1;obtain⟨b,rfl⟩:=items_int h3;have c:b.length<=n:=by
  unfold OpenLaw.pre at hc;have e:(WTm.not (.lt (.lit (.int (n:Int))) (.len (.arg 0)))).holds [] {args:=[.list (b.map .int)]}=true:=by
   have e:=(holds_andW hc).1;rw[hn] at e;exact e
  have h5:=condW_of e (w_not (w_lt w_lit (w_len_list (w_arg rfl))));rw[Aa] at h5;refine Nat.le_of_not_lt fun q=>?_;have i:(n:Int)<((b.length:Nat):Int):=ω
  first
   |(rw[decide_eq_true i] at h5;exact absurd h5 ξ)
   |(simp at h5;omega)
 cases j with
 |cons w1 w2=>
  cases w2;cases w1 with
  |list ho hall=>exact⟨_,_,b,rfl,rfl,ho,Hb b _ hall,c⟩
def Hd(l:OpenLaw)(args:List WData):l.row.toRowW.claim.post args (.bool true) args=true:=
 postW_of (r:=l.row.toRowW) (X:=(true==true))
  (show WShape.has [] (.bool true) .bool=true by first|rfl|decide|simp[WShape.has,WShape.arms,WShape.armsAll])
  (show(WTm.eq .res (.lit (.bool true))).value [] {args:=args,res:=some (.bool true),after:=args}=some (.bool (true==true)) from w_eq_bool (w_res rfl) w_lit) rfl
def He{l:OpenLaw}{n:Nat}{q:Program}{s:List Str}{u:(Str->Option Value)->Heap->Prop}{v:World->Heap->Prop}{d:DefRec}(hn:l.most=some n)(J:d.params.defaults=[])(call:∀(w:World)(s₀ b:Shared)(mg h:Str->Option Value)(fa:Addr)(o:Obj)(i e j:Value)(a:Addr)(vs:List Value)(g:List Int),
   Ground q s [] u w s₀ mg h b.heap->v w b.heap->
   b.heap.get? fa=some o->o.data=.func (docDef d.name d.params d.body d.scope i e j)->b.heap.CodeRec e d.name->mg d.name=some (.ref fa)->
   b.heap.get? a=some {cls:=.type "list",data:=.seq vs.toArray}->IntsAre vs g->g.length<=n->b.gens=#[]->
   codeAny (model l.prog w) callerA (.call (.ref fa) ⟨[.ref a],[]⟩) (fun r s'=>r=.ok (.ret (.bool true))/\OldK b.heap s'.heap/\s'.os=b.os/\AllBare s'.gens) b):
  WalkO q s u v l.row.toRowW d [] (fun f vs=>PySem.call f vs):=by
 intro w s₀ b mg h G Y fa o i e j x kV y hd z p A C args vals as D L M E N;obtain rfl:x=.none:=Dflts.none p J;obtain rfl:kV=.none:=Dflts.noKw p;obtain⟨a,vs,g,rfl,rfl,F,H,c⟩:=Hc hn D E;refine enter_call (codeAny_mono (call w s₀ b mg h fa o i e j a vs g G Y y (fd_plain hd) z A F H c C) fun r s' hq=>?_);obtain⟨rfl,h2,h3,I⟩:=hq;exact⟨.inl ⟨.bool true,.bool true,[],rfl,fun _=>rfl,.bool true,Hd l _,fun _=>⟨List.Pairwise.nil,fun _ hm=>(nomatch hm)⟩⟩,h2,h3,I⟩
section
variable{prog:Program}{w:World}{A:Around}{E:Ω}{s:Shared}{K:Frag}
def ledger(h:Heap)(L d:Addr):Ψ:=(AB h.objs.size).filterMap fun a=>if a=L\/a=d then none else(h.get? a).map fun o=>(a,o)
end
end Att
namespace L2
open PySem PySem.Spec PyProof.Rows
def BZ:∀{vs:List Value}{a:List Int},IntsAre vs a->Vals (a.map V.int) vs
 |_,_,.nil=>.nil
 |_,_,.cons n t h=>.cons ⟨t,rfl⟩ (BZ h)
def jy(H:Hp):Prop:=∀b,H b=none\/∃o xs,H b=some (.frz o (.lst xs))
def Hf{P:Program}{w:World}{K:Af}{mg A:Str->Option Value}{CX:eu}{k:Nat}{fa a:Addr}{fd:FuncData}{x:Str}{sp:Sp}{c:Shared}{vs:List Value}{l:List Int}(M:K.In c.heap)(L:c.heap.Ns mainGlobals mg)(hb:c.heap.Ns builtinsNs A)(vK:∀x:Str,x≠"__name__"->A x=A5 x)(nW:c.heap.NoLimit)(hg:c.gens=#[])(p:c.heap.get? a=some {cls:=.type "list",data:=.seq vs.toArray})(hi:IntsAre vs l)(hl:l.length<=sizeLine)(hr:Room k callerA)(F:∀base:Heap,K.In base->base.Ns mainGlobals mg->FnOk P w K mg base CX k fa fd [x] sp)(jj:∀(s:Shared)(u:Value),BindsTo s fd ⟨[u],[]⟩ [(x,u)])(fJ:∀H:Hp,jy H->SqL K H a (l.map V.int)->sp [.ref a] H (fun v _=>v=.bl true) fun _ _ _=>False)(k6:∀H e s',CX [] H c (fun _ _ _=>False) e s'->False):codeAny (model P w) callerA (.call (.ref fa) ⟨[.ref a],[]⟩) (fun r s'=>r=.ok (.ret (.bool true))/\OldK c.heap s'.heap/\s'.os=c.os/\AllBare s'.gens) c:=by
 have E:=BZ hi;have T:=hi.length;have G:∀H:Hp,jy H->SqL K H a (l.map V.int)->HOk P w H c.heap->(∀b,H b≠none->b=a)->(H a≠none->K.lookup a=none)->
   codeAny (model P w) callerA (.call (.ref fa) ⟨[.ref a],[]⟩) (fun r s'=>r=.ok (.ret (.bool true))/\OldK c.heap s'.heap/\s'.os=c.os/\AllBare s'.gens) c:=by
  intro H C N g D O;have I:∀{b:Addr}{o:Obj},c.heap.get? b=some o->H b=none->(dk c.heap H).get? b=some o:=fun e n=>FT e n;have U:∀{b:Addr}{o:Obj}{es:Array DictEntry}{ep:Nat},c.heap.get? b=some o->o.data=.dict es ep->H b=none:=fun{b o es ep} e d=>by
   cases q:H b with
   |none=>rfl
   |some u=>
    have y:b=a:=D b (by rw[q];simp);subst y;rw[p] at e;cases e;have d':Data.seq vs.toArray _=Data.dict es ep:=d;cases d'
  have f:∀{b:Addr}{m:Str->Option Value},c.heap.Ns b m->(dk c.heap H).Ns b m:=fun{b m} ⟨o,es,ep,e,d,r⟩=>⟨o,es,ep,I e (U e d),d,r⟩;have J:K.In (dk c.heap H):=fun b o e=>I (M b o e) (by
   cases q:H b with
   |none=>rfl
   |some u=>
    have y:b=a:=D b (by rw[q];simp);subst y;rw[O (by rw[q];simp)] at e;cases e)
  have W:Mod K mg (dk c.heap H):=⟨J,f L,⟨A,f hb,vK⟩,let ⟨mc,h1,h2⟩:=nW;⟨mc,f h1,h2⟩⟩;have X:Env0 P w K mg (dk c.heap H) callerA [] c H:=⟨rfl,W,fun b o e=>FU e,Nat.le_of_eq (FS _ _),trivial,fun b hb=>absurd (show b∈([]:List Addr) from hb) (by simp),g,.of_eq hg⟩;refine codeAny_mono ((F _ J (f L)).run callerA [] c H ⟨[.ref a],[]⟩ [.ref a] [.ref a] _ _ hr X (jj c (.ref a)) (.cons rfl .nil) (fJ H C N)) fun r s' h=>?_;cases r with
  |error e=>exact(k6 H e s' h).elim
  |ok fl=>
   cases fl with
   |next=>exact False.elim h
   |brk=>exact False.elim h
   |cont=>exact False.elim h
   |ret u=>
    obtain⟨v,H',os,i,un,Q,S,q⟩:=h;have Y:v=.bl true:=q;subst Y;obtain rfl:u=Value.bool true:=S;refine⟨rfl,OldK.of_keep fun b o e=>?_,os,i⟩;cases q:H b with
    |none=>exact un.keep b o e q (by intro z;exact absurd (show b∈([]:List Addr) from z) (by simp)) (by simp)
    |some u=>
     rcases C b with z|⟨ob,xs,z⟩
     ·rw[q] at z;cases z
     ·have z2:=un.frzs b ob _ z
      obtain⟨e1,_⟩:=g b _ z;obtain⟨e2,_⟩:=Q b _ z2;rw[e] at e1;cases e1;exact e2
 cases hk:K.lookup a with
 |some o=>
  have e:=M a o hk;rw[p] at e;cases e;refine G (fun _=>none) (fun _=>.inl rfl) (.inr ⟨_,vs.toArray,_,hk,rfl,rfl,rfl,by rw[Aj,T];exact hl,by simpa using E⟩) (fun b u z=>by have j:(none:Option HO)=some u:=z;cases j) (fun b z=>absurd rfl z) fun z=>absurd rfl z
 |none=>
  refine G (fun b=>if b=a then some (.frz {cls:=.type "list",data:=.seq vs.toArray} (.lst (l.map V.int))) else none) (fun b=>?_) (.inl (.inr ⟨{cls:=.type "list",data:=.seq vs.toArray},if_pos rfl⟩)) (fun b u z=>?_) (fun b z=>?_) fun _=>hk
  ·by_cases hb:b=a
   ·exact .inr ⟨_,_,if_pos hb⟩
   ·exact .inl (if_neg hb)
  ·by_cases hb:b=a
   ·have j:=(if_pos hb).symm.trans z
    cases j;subst hb;exact⟨p,by rw[Aa];exact hl,vs,_,E,p⟩
   ·have j:=(if_neg hb).symm.trans z
    cases j
  ·by_cases hb:b=a
   ·exact hb
   ·exact absurd (if_neg hb) z
abbrev B0{K:Af}{h:Heap}(_:K.In h):Af:=K
def B1{l:PySem.W.OpenLaw}{n k:Nat}{q:Program}{J:List Str}{Q:(Str->Option Value)->Heap->Prop}{p:World->Heap->Prop}{d:DefRec}{K:Params->Af}{CX:World->eu}{sp:World->Sp}{x:Str}(hn:l.most=some n)(L:n<=sizeLine)(M:d.params.defaults=[])(hr:Room k callerA)(N:∀(w:World)(h:Heap),p w h->(K w.params).In h)(F:∀(w:World)(mg:Str->Option Value)(fa:Addr)(h:Heap),(K w.params).In h->h.Ns mainGlobals mg->mg d.name=some (.ref fa)->
   ∃fd:FuncData,(∀(s:Shared)(u:Value),BindsTo s fd ⟨[u],[]⟩ [(x,u)])/\
    ∀base:Heap,(K w.params).In base->base.Ns mainGlobals mg->FnOk l.prog w (K w.params) mg base (CX w) k fa fd [x] (sp w))
  (O:∀(w:World)(H:Hp)(a:Addr)(i:List Int),i.length<=n->jy H->SqL (K w.params) H a (i.map V.int)->sp w [.ref a] H (fun v _=>v=.bl true) fun _ _ _=>False)
  (P:∀(w:World)(H:Hp)(s:Shared)(e:Value)(s':Shared),CX w [] H s (fun _ _ _=>False) e s'->False) :
  PySem.W.WalkO q J Q p l.row.toRowW d [] (fun f vs=>PySem.call f vs):=by
 refine Att.He hn M fun w s₀ r mg S fa o U X bC a vs i G Y ho hd cN y z A c C=>?_;have j:=N w _ Y;obtain⟨fd,hb,I⟩:=F w mg fa _ j G.T.g y;exact Hf j G.T.g G.T.b G.T.builtins G.T.nolimit C z A (AD c L) hr I hb (fun H D E=>O w H a i c D E) fun H e s'=>P w H r e s'
end L2
/- THE LAST THEOREM (shape;LID,My.* are yours):
  My.Adr: a structure of kj addresses that your layer names (classes,functions);My.Txt K t: a structure (Prop) of kj equations over K;
  My.txt_mk:{K} {implicit addresses ..} (e1:nsIn K mainGlobals "law"=some (some (.ref f))) (e2:K.lookup f=some ⟨oc,od,.func (fnOf "law" "law" cm body scope dV kV bC pm an cdv ct),sl⟩) (e3:codeIn K cdv "law"=true) ..:∃t,My.Txt K t
set_option maxRecDepth 100000 in
set_option maxHeartbeats 0 in
theorem PySem.Challenge.cw_LID_holds:PySem.Challenge.rw_LID.Holds := by
 w_on;o_law;k_head;(case hw=>w_witness2)
 k_fill
 refine L2.B1 (l:=PySem.Challenge.rw_LID) (n:=63) (k:=40) (x:="script") (CX:=fun w=>..) (sp:=fun _=>My.sp_law) rfl ξ rfl ⟨rfl,ξ,ξ⟩ (fun w h Y=>PySem.W.kIn_of Y) ?F ?S ?C
 case F=>
  intro w mg fa h f G g;have T:∃t,My.Txt (L2.B0 f) t:=by
   dsimp only[L2.B0]                          -- K must b0 as «<heap const> w.params» for k_is
   refine' My.txt_mk ?e1 ?e2 ?e3 ..
   (case e1 => PySem.W.k_is)                    -- in e af: a name -> ae address -> ae object -> ae parts
   (case e2=>PySem.W.k_is)
   ..
  obtain⟨t,T⟩:=T;have i:=g.symm.trans (PySem.W.mg_of f G T.law);cases i                                       -- fa is e law's own address
  exact⟨_,fun s u => .of_eq rfl,fun base c d => My.law_fn T c d⟩     -- if «.of_eq rfl» comes too early: refine' ⟨_,?b,fun base c d => My.law_fn T c d⟩;exact fun s u => .of_eq rfl
 case S=>exact fun w H a j hl o p=>..
 case C=>exact ..
(e tactic k_is has q namespace: write k_is) -/
namespace L2
open PySem PySem.Spec PyProof.Rows
def zbV(s:Stmt):Arguments:=match s with
 |.FunctionDef _ a _ _ _ _ _ _ _ _=>a
 |_=>{posonlyargs:=[],args:=[],vararg:=none,kwonlyargs:=[],kw_defaults:=[],kwarg:=none,defaults:=[]}
def zaW(s:Stmt):List Stmt:=match s with
 |.FunctionDef _ _ b _ _ _ _ _ _ _=>b
 |_=>[]
def zh(s:Stmt):Scope:=match s with
 |.FunctionDef _ _ _ _ _ _ sc _ _ _=>sc
 |_=>{kind:=.function,names:=[],isGenerator:=false,isCoroutine:=false}
abbrev aJ:eu:=fun _ _ _ _ _ _=>False
abbrev E0:XK:=fun _ _ _=>False
def al{X:Cx}:dq aJ X E0:=fun _ _ _ _ _ _ _ h=>h.elim
structure Fun(K:Af)(x ar:Str)(st:Stmt)(f:Addr)(fd:FuncData):Prop where
 ex:∃(oc:Value)(od:Option Addr)(kV bC pm:Value)(an:Option Addr)(cdv ct:Value)(dS:Array (Option Value)),
  fd=PySem.W.fnOf x ar (zbV st) (zaW st) (zh st) .none kV bC pm an cdv ct/\K.lookup f=some ⟨oc,od,.func fd,dS⟩/\PySem.W.codeIn K cdv ar=true
 kp:PySem.W.keepIn K (.ref f)=true
section
variable{P:Program}{w:World}{K:Af}{mg:Str->Option Value}{base:Heap}
def Fun.ok{x a:Str}{st:Stmt}{f:Addr}{fd:FuncData}{N ps:List Str}{k:Nat}{sp:Sp}(F:Fun K x a st f fd)(S:zq N ps (zh st))(len:∀vs H Q E,sp vs H Q E->vs.length=ps.length)(d:∀(cdv:Value)(A:Around)(outer:List Env)(s:Shared)(H:Hp)(vs:List V)(Q:VK)(E:XK),Room k (A.deeper (envOfC a (zh st) s⁻¹ f cdv))->sp vs H Q E->
   ∃t,PSs (dI aJ P w K mg base N a (zh st) f cdv A outer s H E).nox (zaW st) t/\t {nx:=fun _ H'=>Q .non H',rt:=Q} (start N vs) H):FnOk P w K mg base aJ (k+1) f fd ps sp:=by
 obtain⟨e,g,kV,i,j,l,cdv,ct,o,rfl,lk,c⟩:=F.ex;refine GD lk c S len fun A outer s H vs Q E hr b=>?_;obtain⟨t,h,q⟩:=d cdv A outer s H vs Q E hr b;exact⟨t,h.nox,q⟩
def Fun.binds{x d:Str}{st:Stmt}{f:Addr}{fd:FuncData}{ps:List Str}(F:Fun K x d st f fd)(h:∀(kV a b:Value)(c:Option Addr)(cdv ct:Value)(us:List Value),us.length=ps.length->bindArgs (PySem.W.fnOf x d (zbV st) (zaW st) (zh st) .none kV a b c cdv ct) ⟨us,[]⟩=pure (ps.zip us)):Binds K fd ps []:=by
 obtain⟨e,g,kV,a,b,c,cdv,ct,i,rfl,lk,j⟩:=F.ex;exact .all (h kV a b c cdv ct)
def Hg{x a:Str}{st:Stmt}{f:Addr}{h:Value}{i e:Option Addr}{g:Array (Option Value)}{kV b d cdv ct:Value}(l:K.lookup f=some ⟨h,i,.func (PySem.W.fnOf x a (zbV st) (zaW st) (zh st) .none kV b d e cdv ct),g⟩)(c:PySem.W.codeIn K cdv a=true)(k:PySem.W.keepIn K (.ref f)=true):Fun K x a st f (PySem.W.fnOf x a (zbV st) (zaW st) (zh st) .none kV b d e cdv ct):=⟨⟨h,i,kV,b,d,e,cdv,ct,g,rfl,l,c⟩,k⟩
end
def gY{A:Around}{k:Nat}(hr:Room k A):A.units+1<cLine:=Nat.lt_of_le_of_lt (Nat.add_le_add_left (by decide:1<=64) _) hr.units
def cu{n:Nat}(h:n<=1000):n<sizeLine:=Nat.lt_of_le_of_lt h ξ
section
variable{X:Cx}
def pv(i:Nat){x:Str}{pos:Pos}(a:X.N[i]?=some x:=by rfl)(b:oT X.env.scope x:=by first|exact Or.inl rfl|exact Or.inr (Or.inl rfl)|exact Or.inr (Or.inr rfl))(hd:(x==("__debug__":Str))=false:=by decide)
  (c:(x==("__classdict__":Str))=false:=by decide):PE X (.Name x pos) (am i):=FW a b hd c
end
def aW{A B:Prop}(h:B):if false=true then A else B:=by
 rw[if_neg At];exact h
def bb{A B:Prop}(h:A):if true=true then A else B:=by
 rw[if_pos rfl];exact h
def dr{c A B:Prop}[Decidable c](h1:c->A)(h2:¬c->B):if c then A else B:=by
 by_cases h:c
 ·rw[if_pos h]
  exact h1 h
 ·rw[if_neg h]
  exact h2 h
def Same(H H':Hp):Prop:=∀b o,H b=some o->H' b=some o
def Same.refl(H:Hp):Same H H:=fun _ _ h=>h
def Same.trans{H H1 H2:Hp}(a:Same H H1)(b:Same H1 H2):Same H H2:=fun c o h=>b c o (a c o h)
def Same.free{H H':Hp}(e:Same H H'){l:Addr}(h:H' l=Option.none):H l=Option.none:=by
 cases q:H l with
 |none=>rfl
 |some o=>
  rw[e l o q] at h;cases h
def Same.seq{K:Af}{H H':Hp}{a:Addr}{xs:List V}(e:Same H H')(h:SqL K H a xs):SqL K H' a xs:=by
 rcases h with (h|⟨o,h⟩)|h
 ·exact .inl (.inl (e _ _ h))
 ·exact .inl (.inr ⟨o,e _ _ h⟩)
 ·exact .inr h
end L2
end
section
namespace Tim
open PySem PyProof.Rows
def R(ρ:Keyed->Int)(xs:Array Keyed)(i:Nat):Int:=match xs[i]? with
 |some p=>ρ p
 |none=>0
def mz{ρ:Keyed->Int}{xs ys:Array Keyed}{i j:Nat}(h:xs[i]?=ys[j]?):R ρ xs i=R ρ ys j:=by unfold R;rw[h]
def im{ρ:Keyed->Int}{xs:Array Keyed}{i:Nat}{p:Keyed}(h:xs[i]?=some p):R ρ xs i=ρ p:=by unfold R;rw[h]
def bD(ρ:Keyed->Int)(xs:Array Keyed)(lo hi:Nat):Prop:=∀i j,lo<=i->i<=j->j<hi->R ρ xs i<=R ρ xs j
def kZ(ρ:Keyed->Int)(xs:Array Keyed)(lo hi:Nat):Prop:=∀i j,lo<=i->i<=j->j<hi->R ρ xs j<=R ρ xs i
def vY{ρ:Keyed->Int}{xs:Array Keyed}{i j:Nat}(a:j<=xs.size)(k:Nat):R ρ (mirror xs i j ((j-i) / 2)) k=if i<=k/\k<j then R ρ xs (i+j-1-k) else R ρ xs k:=by
 have e:=getElem?_mirror_all (i:=i) a k
 by_cases h1:i<=k/\k<j
 ·rw[if_pos h1] at e ⊢;exact mz e
 ·rw[if_neg h1] at e ⊢;exact mz e
def zX{ρ:Keyed->Int}{xs:Array Keyed}{i j:Nat}(b:j<=xs.size)(a:∀k,i<=k->k<j->R ρ xs k=R ρ xs (j-1))(k:Nat):R ρ (mirror xs i j ((j-i) / 2)) k=R ρ xs k:=by
 rw[vY b];split
 ·rw[a _ ω ω,a k ω ω]
 ·rfl
def B2{ρ:Keyed->Int}{xs:Array Keyed}{src d:Nat}(hs:src<xs.size)(hd:d<=src)(k:Nat):R ρ (bubble xs src d) k=if k=src-d then R ρ xs src else if src-d<k/\k<=src then R ρ xs (k-1) else R ρ xs k:=by
 have e:=getElem?_bubble hs d hd k
 by_cases h1:k=src-d
 ·rw[if_pos h1] at e ⊢;exact mz e
 ·rw[if_neg h1] at e ⊢
  by_cases h2:src-d<k/\k<=src
  ·rw[if_pos h2] at e ⊢;exact mz e
  ·rw[if_neg h2] at e ⊢;exact mz e
structure eV(prog:Program)(w:World)(A:Around)(s:Shared)(κ:SortKind)(a₀:Array Keyed)(ρ:Keyed->Int):Prop where
 lt:∀x y,x∈a₀.toList->y∈a₀.toList->∀(Q:Bool->Shared->Prop)(E:Ω),Q (decide (ρ x<ρ y)) s->wpAny (model prog w) A (keyLt' κ x.1 y.1) Q E s
structure B(κ:SortKind)(a₀:Array Keyed)(st:SortSt):Prop where
 perm:(arrOf st).Perm a₀
 kind:kindOf st=κ
 failed:failedOf st=none
def B.size{κ:SortKind}{a₀:Array Keyed}{st:SortSt}(h:B κ a₀ st):(arrOf st).size=a₀.size:=h.perm.size_eq
def B.setArr{κ:SortKind}{a₀:Array Keyed}{st:SortSt}(h:B κ a₀ st){xs:Array Keyed}(hp:xs.Perm (arrOf st)):B κ a₀ (setArr st xs):=⟨hp.trans h.perm,h.kind,h.failed⟩
def B.mem{κ:SortKind}{a₀:Array Keyed}{st:SortSt}(h:B κ a₀ st){p:Keyed}(hp:p∈(arrOf st).toList):p∈a₀.toList:=(Array.perm_iff_toList_perm.mp h.perm).mem_iff.mp hp
def B3{xs:Array Keyed}{i:Nat}(hi:i<xs.size):∃p,xs[i]?=some p/\p∈xs.toList:=⟨xs[i],getElem?_pos _ i hi,by simp⟩
structure Pre(lo:Nat)(st aj:SortSt):Prop where
 arr:∀k,k<lo->(arrOf aj)[k]?=(arrOf st)[k]?
 pend:pendingOf aj=pendingOf st
def Pre.refl{lo:Nat}{st:SortSt}:Pre lo st st:=⟨fun _ _=>rfl,rfl⟩
def Pre.trans{lo:Nat}{a b c:SortSt}(x:Pre lo a b)(y:Pre lo b c):Pre lo a c:=⟨fun k h=>(y.arr k h).trans (x.arr k h),y.pend.trans x.pend⟩
def Pre.mir{lo i j:Nat}{st:SortSt}(a:j<=(arrOf st).size)(hi:lo<=i):Pre lo st (setArr st (mirror (arrOf st) i j ((j-i) / 2))):=
 ⟨fun k h=>by show(mirror _ _ _ _)[k]?=_;rw[getElem?_mirror_all a,if_neg ω],rfl⟩
def Pre.bub{lo src d:Nat}{st:SortSt}(hs:src<(arrOf st).size)(hd:d<=src)(hl:lo<=src-d):Pre lo st (setArr st (bubble (arrOf st) src d)):=
 ⟨fun k h=>by show(bubble _ _ _)[k]?=_;rw[getElem?_bubble hs d hd,if_neg ω,if_neg ω],rfl⟩
section
variable{prog:Program}{w:World}{A:Around}{E:Ω}{s:Shared}{κ:SortKind}{a₀:Array Keyed}{ρ:Keyed->Int}
def Hh(C:eV prog w A s κ a₀ ρ){st:SortSt}(a:B κ a₀ st){x y:Keyed}(hx:x∈a₀.toList)(hy:y∈a₀.toList){Q:Option Bool->SortSt->Prop}(h:Q (some (decide (ρ x<ρ y))) st):wpS (model prog w) A E s (lt' x y) Q st:=by
 rw[lt'_eq];refine wpS_bind (wpS_get ?_);rw[a.kind];refine wpS_bind (wpS_lift (wpAny_attempt (C.lt x y hx hy _ _ ⟨rfl,?_⟩)));exact wpS_pure h
def B4{st:SortSt}{xs:Array Keyed}{i:Nat}{p:Keyed}(h:xs[i]?=some p){Q:Keyed->SortSt->Prop}(hq:Q p st):wpS (model prog w) A E s (elem' xs i) Q st:=by
 rw[elem'_eq,h];exact wpS_pure hq
def mD(C:eV prog w A s κ a₀ ρ){st:SortSt}(a:B κ a₀ st){i j:Nat}(hi:i<a₀.size)(d:j<a₀.size){Q:Option Bool->SortSt->Prop}(h:Q (some (decide (R ρ (arrOf st) i<R ρ (arrOf st) j))) st):wpS (model prog w) A E s (ltAt' i j) Q st:=by
 obtain⟨p,e1,b⟩:=B3 (xs:=arrOf st) (i:=i) (by rw[a.size];exact hi);obtain⟨q,e2,c⟩:=B3 (xs:=arrOf st) (i:=j) (by rw[a.size];exact d);rw[ltAt'_eq];refine wpS_bind (wpS_get ?_);show wpS _ _ _ _ (do let x <-elem' (arrOf st) i;let y <-elem' (arrOf st) j;lt' x y) Q st;refine wpS_bind (B4 e1 (wpS_bind (B4 e2 (Hh C a (a.mem b) (a.mem c) ?_))));rw[im e1,im e2] at h;exact h
def asc(lo a b:Nat):StateT SortSt Sem AscSt:=
 forIn [a:b] ((none,a):AscSt) fun _ __s=>do
  let __x <-ltAt' (lo+__s.snd) (lo+__s.snd-1)
  match __x with
  |some smaller=>if smaller=true then pure (ForInStep.done (none,__s.snd)) else pure (ForInStep.yield (none,__s.snd+1))
  |_=>pure (ForInStep.done (some none,__s.snd))
def mF(lo n a:Nat):StateT SortSt Sem (Option Nat):=do
 reverseSlice' lo (lo+n)
 let __s <-asc lo n a
 match __s.fst with
 |some r=>pure r
 |none=>pure (some __s.snd)
def pN(lo n a:Nat):StateT SortSt Sem DescSt:=
 forIn [n:a] ((none,n,0):DescSt) fun _ __s=>do
  let __x <-ltAt' (lo+__s.snd.fst) (lo+__s.snd.fst-1)
  match __x with
  |some smaller=>
   if smaller=true then
    if __s.snd.snd>0 then do
     reverseSlice' (lo+__s.snd.fst-(__s.snd.snd+1)) (lo+__s.snd.fst)
     pure (ForInStep.yield (none,__s.snd.fst+1,0))
    else pure (ForInStep.yield (none,__s.snd.fst+1,0))
   else do
    let __x <-ltAt' (lo+__s.snd.fst-1) (lo+__s.snd.fst)
    match __x with
    |some larger=>
     if larger=true then pure (ForInStep.done (none,__s.snd.fst,__s.snd.snd))
     else pure (ForInStep.yield (none,__s.snd.fst+1,__s.snd.snd+1))
    |_=>pure (ForInStep.done (some none,__s.snd.fst,__s.snd.snd))
  |_=>pure (ForInStep.done (some none,__s.snd.fst,__s.snd.snd))
def mI(lo n a:Nat):StateT SortSt Sem (Option Nat):=do
 liftM (rule "list.sort.descending-run")
 let __s <-pN lo (n+1) a
 match __s.fst with
 |some r=>pure r
 |none=>
  if __s.snd.snd>0 then do
   reverseSlice' (lo+__s.snd.fst-(__s.snd.snd+1)) (lo+__s.snd.fst)
   mF lo __s.snd.fst a
  else mF lo __s.snd.fst a
def bc{b c:Type}{m:StateT SortSt Sem b}{f g:b->StateT SortSt Sem c}(h:∀a,f a=g a):(m >>= f)=(m >>= g):=by
 have e:f=g:=funext h;rw[e]
def Hi(lo d:Nat):countRun' lo d=(do
  let __s <-asc lo 1 d
  match __s.fst with
  |some r=>pure r
  |none=>
   if(__s.snd==d)=true then pure (some __s.snd)
   else if __s.snd>1 then do
    let __x <-ltAt' lo (lo+__s.snd-1)
    match __x with
    |some rose=>if rose=true then pure (some __s.snd) else do
      reverseSlice' lo (lo+__s.snd)
      mI lo __s.snd d
    |_=>pure none
   else mI lo __s.snd d):=by
 rw[countRun'_eq];unfold mI mF pN asc;refine bc fun g=>?_;obtain⟨r,n⟩:=g;cases r with
 |some r=>rfl
 |none=>
  dsimp only;split
  ·rfl
  ·split
   ·refine bc fun x=>?_
    cases x with
    |none=>rfl
    |some rose=>
     dsimp only;split
     ·rfl
     ·refine bc fun _r=>bc fun _u=>bc fun e=>?_
      obtain⟨c,n2,h⟩:=e;cases c with
      |some c=>rfl
      |none=>
       dsimp only;split
       ·refine bc fun _v=>bc fun _w=>bc fun a=>?_
        obtain⟨b,f⟩:=a;cases b<;>rfl
       ·refine bc fun _w=>bc fun a=>?_
        obtain⟨b,f⟩:=a;cases b<;>rfl
   ·refine bc fun _u=>bc fun e=>?_
    obtain⟨c,n2,h⟩:=e;cases c with
    |some c=>rfl
    |none=>
     dsimp only;split
     ·refine bc fun _v=>bc fun _w=>bc fun a=>?_
      obtain⟨b,f⟩:=a;cases b<;>rfl
     ·refine bc fun _w=>bc fun a=>?_
      obtain⟨b,f⟩:=a;cases b<;>rfl
def B5(C:eV prog w A s κ a₀ ρ){st:SortSt}{lo a d:Nat}{Q:AscSt->SortSt->Prop}(hn:lo+d<=a₀.size)(z:1<=a)(r:a<=d)(u:B κ a₀ st)(hs:bD ρ (arrOf st) lo (lo+a))(h:∀n,a<=n->n<=d->bD ρ (arrOf st) lo (lo+n)->(n=d\/R ρ (arrOf st) (lo+n)<R ρ (arrOf st) (lo+n-1))->Q (none,n) st):wpS (model prog w) A E s (asc lo a d) Q st:=by
 unfold asc;refine wpS_forRange (I:=fun x c f=>f=st/\c=(none,x)/\bD ρ (arrOf st) lo (lo+x)) ?step ?fin ⟨rfl,rfl,hs⟩
 case fin=>
  rintro c f ⟨rfl,rfl,e⟩;rw[show max a d=d from ω] at e ⊢;exact h d r (Ag _) e (.inl rfl)
 case step=>
  rintro x c f q y ⟨rfl,rfl,e⟩;dsimp only;refine wpS_bind (mD C u ω ω ?_)
  by_cases b:R ρ (arrOf f) (lo+x)<R ρ (arrOf f) (lo+x-1)
  ·simp only[b,decide_true,if_true]
   exact wpS_pure (h x q ω e (.inr b))
  ·simp only[b,decide_false,Au,if_false]
   refine wpS_pure ⟨rfl,rfl,fun i j hl g v=>?_⟩
   by_cases o:j<lo+x
   ·exact e i j hl g o
   ·have l:j=lo+x:=ω
    subst l
    by_cases p:i=lo+x
    ·subst p;exact Int.le_refl _
    ·exact Int.le_trans (e i (lo+x-1) hl ω ω) (Int.not_lt.mp b)
def pO{st:SortSt}{i j:Nat}{Q:Unit->SortSt->Prop}(h:Q () (setArr st (mirror (arrOf st) i j ((j-i) / 2)))):wpS (model prog w) A E s (reverseSlice' i j) Q st:=by
 rw[reverseSlice'_eq];exact wpS_modify h
abbrev Got(κ:SortKind)(a₀:Array Keyed)(ρ:Keyed->Int)(lo ap:Nat)(st:SortSt)(Q:Option Nat->SortSt->Prop):Prop:=
 ∀m aj,B κ a₀ aj->Pre lo st aj->1<=m->m<=ap->bD ρ (arrOf aj) lo (lo+m)->Q (some m) aj
def B6(C:eV prog w A s κ a₀ ρ){st d:SortSt}{lo n a:Nat}{Q:Option Nat->SortSt->Prop}(hn:lo+a<=a₀.size)(h1:1<=n)(b:n<=a)(e:B κ a₀ st)(o:Pre lo d st)(hs:kZ ρ (arrOf st) lo (lo+n))(h:Got κ a₀ ρ lo a d Q):wpS (model prog w) A E s (mF lo n a) Q st:=by
 unfold mF;have hsz:lo+n<=(arrOf st).size:=by rw[e.size];omega
 refine wpS_bind (pO ?_);have c:B κ a₀ (setArr st (mirror (arrOf st) lo (lo+n) ((lo+n-lo) / 2))):=e.setArr (mirror_perm _ _ _ _);refine wpS_bind (B5 C hn h1 b c ?_ fun m p f g _=>wpS_pure (h m _ c (o.trans (.mir hsz (Ag _))) ω f g));intro i j hl l q;show R ρ (mirror (arrOf st) lo (lo+n) ((lo+n-lo) / 2)) i<=R ρ (mirror (arrOf st) lo (lo+n) ((lo+n-lo) / 2)) j;rw[vY hsz,vY hsz,if_pos ω,if_pos ω];exact hs _ _ ω ω ω
def Hj(C:eV prog w A s κ a₀ ρ){st D:SortSt}{lo n u:Nat}{Q:DescSt->SortSt->Prop}(hn:lo+u<=a₀.size)(h1:1<=n)(F:n<=u)(L:B κ a₀ st)(M:Pre lo D st)(hs:kZ ρ (arrOf st) lo (lo+n))(h:∀m e a,B κ a₀ a->Pre lo D a->n<=m->m<=u->kZ ρ (arrOf a) lo (lo+m)->e+1<=m->(∀i,lo+m-(e+1)<=i->i<lo+m->R ρ (arrOf a) i=R ρ (arrOf a) (lo+m-1))->Q (none,m,e) a):wpS (model prog w) A E s (pN lo n u) Q st:=by
 unfold pN;refine wpS_forRange (I:=fun x c a=>∃e,c=(none,x,e)/\B κ a₀ a/\Pre lo D a/\kZ ρ (arrOf a) lo (lo+x)/\e+1<=x/\
   (∀i,lo+x-(e+1)<=i->i<lo+x->R ρ (arrOf a) i=R ρ (arrOf a) (lo+x-1))) ?step ?fin ⟨0,rfl,L,M,hs,ω,fun i h1 h2=>by congr 1;omega⟩
 case fin=>
  rintro c a ⟨e,rfl,g,z,l,hq,he⟩;rw[show max n u=u from ω] at l hq he ⊢;exact h u e a g z F (Ag _) l hq he
 case step=>
  rintro x c a J N ⟨e,rfl,g,z,l,hq,he⟩;dsimp only;have hsz:lo+x<=(arrOf a).size:=by rw[g.size];omega
  refine wpS_bind (mD C g ω ω ?_)
  by_cases d:R ρ (arrOf a) (lo+x)<R ρ (arrOf a) (lo+x-1)
  ·simp only[d,decide_true,if_true]
   have f:∀xs:Array Keyed,(∀k,R ρ xs k=R ρ (arrOf a) k)->kZ ρ xs lo (lo+(x+1)):=by
    intro xs hk i j hl q H;rw[hk,hk]
    by_cases v:j<lo+x
    ·exact l i j hl q v
    ·have r:j=lo+x:=ω
     subst r
     by_cases y:i=lo+x
     ·subst y;exact Int.le_refl _
     ·exact Int.le_trans (Int.le_of_lt d) (l i (lo+x-1) hl ω ω)
   by_cases p:e>0
   ·rw[if_pos p]
    refine wpS_bind (pO (wpS_pure ⟨0,rfl,g.setArr (mirror_perm _ _ _ _),z.trans (.mir hsz ω),f _ (zX hsz he),ω,fun i h1 h2=>by congr 1;omega⟩))
   ·rw[if_neg p]
    exact wpS_pure ⟨0,rfl,g,z,f _ (fun _=>rfl),ω,fun i h1 h2=>by congr 1;omega⟩
  ·simp only[d,decide_false,Au,if_false]
   refine wpS_bind (mD C g ω ω ?_)
   by_cases b:R ρ (arrOf a) (lo+x-1)<R ρ (arrOf a) (lo+x)
   ·simp only[b,decide_true,if_true]
    exact wpS_pure (h x e a g z J ω l hq he)
   ·simp only[b,decide_false,Au,if_false]
    have o:R ρ (arrOf a) (lo+x)=R ρ (arrOf a) (lo+x-1):=ω
    refine wpS_pure ⟨e+1,rfl,g,z,fun i j hl q H=>?_,ω,fun i h1 h2=>?_⟩
    ·by_cases v:j<lo+x
     ·exact l i j hl q v
     ·have r:j=lo+x:=ω
      subst r
      by_cases y:i=lo+x
      ·subst y;exact Int.le_refl _
      ·rw[o];exact l i (lo+x-1) hl ω ω
    ·rw[show lo+(x+1)-1=lo+x from ω]
     by_cases G:i=lo+x
     ·subst G;rfl
     ·rw[o];exact he i ω ω
def B7(C:eV prog w A s κ a₀ ρ){st p:SortSt}{lo n b:Nat}{Q:Option Nat->SortSt->Prop}(hn:lo+b<=a₀.size)(f:n+1<=b)(u:B κ a₀ st)(v:Pre lo p st)(hs:kZ ρ (arrOf st) lo (lo+(n+1)))(h:Got κ a₀ ρ lo b p Q):wpS (model prog w) A E s (mI lo n b) Q st:=by
 unfold mI;refine wpS_bind (wpS_lift (wpAny_rule ⟨rfl,?_⟩));refine wpS_bind (Hj C hn ω f u v hs fun m q c d g x l o hq he=>?_);dsimp only;have hsz:lo+m<=(arrOf c).size:=by rw[d.size];omega
 by_cases a:q>0
 ·rw[if_pos a]
  refine wpS_bind (pO (B6 C hn ω l (d.setArr (mirror_perm _ _ _ _)) (g.trans (.mir hsz ω)) ?_ h));intro i j hl e r;show R ρ (mirror (arrOf c) _ _ _) j<=R ρ (mirror (arrOf c) _ _ _) i;rw[zX hsz he,zX hsz he];exact o i j hl e r
 ·rw[if_neg a]
  exact B6 C hn ω l d g o h
def Hk(C:eV prog w A s κ a₀ ρ){st:SortSt}{lo p:Nat}{Q:Option Nat->SortSt->Prop}(hn:lo+p<=a₀.size)(h1:1<=p)(d:B κ a₀ st)(h:Got κ a₀ ρ lo p st Q):wpS (model prog w) A E s (countRun' lo p) Q st:=by
 rw[Hi];refine wpS_bind (B5 C hn (Ag 1) h1 d (fun i j hl g x=>by have:i=j:=ω;subst this;exact Int.le_refl _) fun n y z c D=>?_);dsimp only
 by_cases e:n=p
 ·rw[if_pos (by simpa using e)]
  exact wpS_pure (h n st d .refl y z c)
 ·rw[if_neg (by simpa using e)]
  have l:R ρ (arrOf st) (lo+n)<R ρ (arrOf st) (lo+n-1):=D.resolve_left e
  by_cases q:n>1
  ·rw[if_pos q]
   refine wpS_bind (mD C d ω ω ?_)
   by_cases b:R ρ (arrOf st) lo<R ρ (arrOf st) (lo+n-1)
   ·simp only[b,decide_true,if_true]
    exact wpS_pure (h n st d .refl y z c)
   ·simp only[b,decide_false,Au,if_false]
    have hsz:lo+n<=(arrOf st).size:=by rw[d.size];omega
    have a:∀k,lo<=k->k<lo+n->R ρ (arrOf st) k=R ρ (arrOf st) (lo+n-1):=by
     intro k hl hk;have G:=c lo k ω hl hk;have H:=c k (lo+n-1) hl ω ω;omega
    refine wpS_bind (pO (B7 C hn ω (d.setArr (mirror_perm _ _ _ _)) (.mir hsz (Ag _)) ?_ h));intro i j hl g x;show R ρ (mirror (arrOf st) _ _ _) j<=R ρ (mirror (arrOf st) _ _ _) i;rw[zX hsz a,zX hsz a]
    by_cases v:j<lo+n
    ·rw[a i ω ω,a j ω v];exact Int.le_refl _
    ·have r:j=lo+n:=ω
     subst r
     by_cases f:i=lo+n
     ·subst f;exact Int.le_refl _
     ·rw[a i ω ω];exact Int.le_of_lt l
  ·rw[if_neg q]
   have o:n=1:=ω
   subst o;refine B7 C hn ω d .refl ?_ h;intro i j hl g x
   by_cases f:i=j
   ·subst f;exact Int.le_refl _
   ·have F:i=lo:=ω
    have u:j=lo+1:=ω
    subst F;subst u;exact Int.le_of_lt l
def Hl(C:eV prog w A s κ a₀ ρ){st:SortSt}{lo n ok:Nat}{Q:Bool->SortSt->Prop}(hn:lo+n<=a₀.size)(H:ok<=n)(J:B κ a₀ st)(hs:bD ρ (arrOf st) lo (lo+ok))(h:∀a,B κ a₀ a->Pre lo st a->bD ρ (arrOf a) lo (lo+n)->Q true a):wpS (model prog w) A E s (binarySort' lo n ok) Q st:=by
 rw[binarySort'_eq];refine wpS_bind (wpS_mono (wpS_forRange (I:=fun k c a=>c=(none,())/\B κ a₀ a/\Pre lo st a/\bD ρ (arrOf a) lo (lo+min k n))
  (Q:=fun c a=>c=(none,())/\B κ a₀ a/\Pre lo st a/\bD ρ (arrOf a) lo (lo+n)) ?step ?fin ?init) ?post)
 case post=>
  rintro c a ⟨rfl,f,q,e⟩;exact wpS_pure (h a f q e)
 case init=>
  refine⟨rfl,J,.refl,fun i j hl p z=>?_⟩
  by_cases h1:ok=0
  ·have:i=j:=ω
   subst this;exact Int.le_refl _
  ·exact hs i j hl p ω
 case fin=>
  rintro c a ⟨hc,f,q,e⟩;refine⟨hc,f,q,?_⟩
  rwa [show min (max (max ok 1) n) n=n from ω] at e
 case step=>
  rintro k c a L M ⟨rfl,f,q,e⟩;rw[show min k n=k from ω] at e;have hk:lo+k<a₀.size:=ω
  refine wpS_bind (wpS_mono (wpS_forRange (I:=fun x c d=>d=a/\∃l r,c=(none,l,r)/\l<=r/\r<=k/\r-l<=k-x/\
    (∀i,i<l->R ρ (arrOf a) (lo+i)<=R ρ (arrOf a) (lo+k))/\(∀i,r<=i->i<k->R ρ (arrOf a) (lo+k)<R ρ (arrOf a) (lo+i)))
   (Q:=fun c d=>d=a/\∃l r,c=(none,l,r)/\l<=k/\
    (∀i,i<l->R ρ (arrOf a) (lo+i)<=R ρ (arrOf a) (lo+k))/\(∀i,l<=i->i<k->R ρ (arrOf a) (lo+k)<R ρ (arrOf a) (lo+i))) ?istep ?ifin ?iinit) ?ipost)
  case iinit=>exact⟨rfl,0,k,rfl,ω,ω,ω,fun i hi=>ω,fun i h1 h2=>ω⟩
  case ifin=>
   rintro c d ⟨rfl,l,r,rfl,D,v,hm,g,o⟩;have:l=r:=ω
   subst this;exact⟨rfl,l,l,rfl,v,g,o⟩
  case istep=>
   rintro x c d _ N ⟨rfl,l,r,rfl,D,v,hm,g,o⟩;dsimp only
   by_cases u:l ≥ r
   ·rw[if_pos u]
    have:l=r:=ω
    subst this;exact wpS_pure ⟨rfl,l,l,rfl,v,g,o⟩
   ·rw[if_neg u]
    refine wpS_bind (mD C f hk ω ?_)
    by_cases b:R ρ (arrOf d) (lo+k)<R ρ (arrOf d) (lo+(l+r) / 2)
    ·simp only[b,decide_true,if_true]
     refine wpS_pure ⟨rfl,l,(l+r) / 2,rfl,ω,ω,ω,g,fun i h1 h2=>?_⟩;exact Int.lt_of_lt_of_le b (e _ _ ω ω ω)
    ·simp only[b,decide_false,Au,if_false]
     refine wpS_pure ⟨rfl,(l+r) / 2+1,r,rfl,ω,ω,ω,fun i h1=>?_,o⟩;exact Int.le_trans (e (lo+i) (lo+(l+r) / 2) ω ω ω) (Int.not_lt.mp b)
  case ipost=>
   rintro c d ⟨rfl,l,r,rfl,O,g,o⟩;show wpS _ _ _ _ (do moveDown' (lo+k) (lo+l);pure (ForInStep.yield (none,()))) _ _;rw[moveDown'_eq];have y:lo+k<(arrOf d).size:=by rw[f.size];exact hk
   refine wpS_bind (wpS_modify (wpS_pure ⟨rfl,f.setArr (bubble_perm _ _ _),q.trans (.bub y ω ω),?_⟩));rw[show min (k+1) n=k+1 from ω];intro i j hl p z;show R ρ (bubble (arrOf d) (lo+k) (lo+k-(lo+l))) i<=R ρ (bubble (arrOf d) (lo+k) (lo+k-(lo+l))) j;rw[B2 y ω,B2 y ω,show lo+k-(lo+k-(lo+l))=lo+l from ω];have F:∀i,lo<=i->i<lo+l->R ρ (arrOf d) i<=R ρ (arrOf d) (lo+k):=fun i h1 h2=>by
    have:=g (i-lo) ω;rwa [show lo+(i-lo)=i from ω] at this
   have G:∀i,lo+l<=i->i<lo+k->R ρ (arrOf d) (lo+k)<R ρ (arrOf d) i:=fun i h1 h2=>by
    have:=o (i-lo) ω ω;rwa [show lo+(i-lo)=i from ω] at this
   repeat' split
   all_goals first
    |(exfalso;omega)
    |exact Int.le_refl _
    |exact F _ ω ω
    |exact Int.le_of_lt (G _ ω ω)
    |exact e _ _ ω ω ω
def Hm(C:eV prog w A s κ a₀ ρ){st:SortSt}{Q:Unit->SortSt->Prop}(D:B κ a₀ st)(hp:pendingOf st=#[])(h1:1<=a₀.size)(M:a₀.size<64)(h:∀a,B κ a₀ a->bD ρ (arrOf a) 0 a₀.size->Q () a):wpS (model prog w) A E s sortRuns' Q st:=by
 rw[sortRuns'_eq];refine wpS_bind (wpS_get ?_);dsimp only;have L:minRun' a₀.size a₀.size 0=a₀.size:=by
  obtain⟨f,hf⟩:∃f,a₀.size=f+1:=⟨a₀.size-1,ω⟩;have:minRun' (f+1) a₀.size 0=a₀.size:=by rw[minRun'_succ,if_pos M];rfl
  rwa [<-hf] at this
 simp only[D.size,L];refine wpS_bind (wpS_mono (wpS_forRange
  (I:=fun x c a=>(x=0/\c=(none,0)/\B κ a₀ a/\pendingOf a=#[])\/(1<=x/\c=(none,a₀.size)/\B κ a₀ a/\(pendingOf a).size<=1/\bD ρ (arrOf a) 0 a₀.size))
  (Q:=fun c a=>c=(none,a₀.size)/\B κ a₀ a/\(pendingOf a).size<=1/\bD ρ (arrOf a) 0 a₀.size) ?step ?fin (.inl ⟨rfl,rfl,D,hp⟩)) ?post)
 case fin=>
  rintro c a (⟨hx,_,_⟩|⟨_,hc,l⟩)
  ·omega
  ·exact⟨hc,l⟩
 case step=>
  rintro x c a _ hx (⟨rfl,rfl,o,v⟩|⟨O,rfl,l⟩)
  ·dsimp only
   rw[if_neg ω];simp only[Nat.sub_zero,Nat.min_self];refine wpS_bind (Hk C ω ω o fun m i r P2 N F j=>?_);dsimp only;have tl:∀d,B κ a₀ d->pendingOf d=#[]->bD ρ (arrOf d) 0 a₀.size->B κ a₀ (setPending d ((pendingOf d).push (0,a₀.size,0)))/\(pendingOf (setPending d ((pendingOf d).push (0,a₀.size,0)))).size<=1/\bD ρ (arrOf (setPending d ((pendingOf d).push (0,a₀.size,0)))) 0 a₀.size:=
    fun d b p q=>⟨⟨b.perm,b.kind,b.failed⟩,by show((pendingOf d).push _).size<=1;rw[p];exact Ag 1,q⟩
   by_cases g:m<a₀.size
   ·rw[if_pos g]
    refine wpS_bind (wpS_lift (wpAny_rule ⟨rfl,?_⟩));refine wpS_bind (Hl C ω F r j fun d G P3 u=>?_);simp only[Bool.not_true,Au,if_false];refine wpS_bind (wpS_get ?_);have y:pendingOf d=#[]:=by rw[P3.pend,P2.pend];exact v
    have hb:(pendingOf d).back?=none:=by rw[y];rfl
    rw[hb];dsimp only;simp only[Nat.zero_add] at u ⊢;exact wpS_bind (wpS_modify (wpS_pure (.inr ⟨ω,rfl,tl d G y u⟩)))
   ·rw[if_neg g]
    have hm:m=a₀.size:=ω
    subst hm;refine wpS_bind (wpS_get ?_);have z:pendingOf i=#[]:=by rw[P2.pend];exact v
    have hb:(pendingOf i).back?=none:=by rw[z];rfl
    rw[hb];dsimp only;simp only[Nat.zero_add] at j ⊢;exact wpS_bind (wpS_modify (wpS_pure (.inr ⟨ω,rfl,tl i r z j⟩)))
  ·dsimp only
   rw[if_pos (Ag _)];exact wpS_pure ⟨rfl,l⟩
 case post=>
  rintro c a ⟨rfl,o,H,J⟩;dsimp only;refine wpS_bind (wpS_mono (wpS_forRange (I:=fun _ c e=>e=a/\c=(none,())) (Q:=fun c e=>e=a/\c=(none,())) ?_ (fun _ _ hh=>hh) ⟨rfl,rfl⟩) ?_)
  ·rintro x c e _ _ ⟨rfl,rfl⟩
   refine wpS_bind (wpS_get ?_);rw[if_pos H];exact wpS_pure ⟨rfl,rfl⟩
  ·rintro c e ⟨rfl,rfl⟩
   exact wpS_pure (h _ o J)
end
end Tim
end
section
namespace bD
open PySem PyProof.Rows HT
def v1:∀a:List Int,lexLt a a=false
 |[]=>rfl
 |x::a=>by rw[zz,if_pos rfl];exact v1 a
def k4:∀{a b c:List Int},lexLt a b=true->lexLt b c=true->lexLt a c=true
 |[],[],_,h,_=>by cases h
 |[],_::_,[],_,h=>by cases h
 |[],_::_,_::_,_,_=>rfl
 |_::_,[],_,h,_=>by cases h
 |_::_,_::_,[],_,h=>by cases h
 |x::a,y::b,z::c,h1,h2=>by
  rw[zz] at h1 h2 ⊢
  by_cases e1:x=y
  ·rw[if_pos e1] at h1
   by_cases e2:y=z
   ·rw[if_pos e2] at h2
    rw[if_pos (e1.trans e2)];exact k4 h1 h2
   ·rw[if_neg e2] at h2
    rw[if_neg ω];have:=of_decide_eq_true h2;exact decide_eq_true ω
  ·rw[if_neg e1] at h1
   have d:=of_decide_eq_true h1
   by_cases e2:y=z
   ·rw[if_neg ω]
    exact decide_eq_true ω
   ·rw[if_neg e2] at h2
    have e:=of_decide_eq_true h2;rw[if_neg ω];exact decide_eq_true ω
def B8:∀{a b:List Int},lexLt a b=false->lexLt b a=false->a=b
 |[],[],_,_=>rfl
 |[],_::_,h,_=>by cases h
 |_::_,[],_,h=>by cases h
 |x::a,y::b,h1,h2=>by
  rw[zz] at h1 h2
  by_cases e:x=y
  ·subst e
   rw[if_pos rfl] at h1 h2;rw[B8 h1 h2]
  ·rw[if_neg e] at h1
   rw[if_neg (Ne.symm e)] at h2;have:=of_decide_eq_false h1;have:=of_decide_eq_false h2;omega
def rk(ls:Ξ)(l:List Int):Int:=((ls.filter fun m=>lexLt m l).length:Nat)
def B9{ls:Ξ}{l m:List Int}(hl:l∈ls)(hm:m∈ls):decide (rk ls l<rk ls m)=lexLt l m:=by
 have mono:∀{a b:List Int},(∀x,lexLt x a=true->lexLt x b=true)->∀k:Ξ,(k.filter fun x=>lexLt x a).length<=(k.filter fun x=>lexLt x b).length:=by
  intro a b d k
  induction k with
  |nil=>exact Ag _
  |cons x k ih=>
   rw[List.filter_cons,List.filter_cons]
   by_cases q:lexLt x a=true
   ·rw[if_pos q,if_pos (d x q),An,An];omega
   ·rw[if_neg q]
    split
    ·rw[An];omega
    ·exact ih
 have c:∀{a b:List Int},(∀x,lexLt x a=true->lexLt x b=true)->lexLt a b=true->∀k:Ξ,a∈k->(k.filter fun x=>lexLt x a).length<(k.filter fun x=>lexLt x b).length:=by
  intro a b d h k
  induction k with
  |nil=>intro q;cases q
  |cons x k ih=>
   intro hk;rw[List.filter_cons,List.filter_cons];rcases List.mem_cons.mp hk with e|e
   ·subst e
    rw[if_neg (by rw[v1];exact At),if_pos h,An];have:=mono d k;omega
   ·have:=ih e
    by_cases q:lexLt x a=true
    ·rw[if_pos q,if_pos (d x q),An,An];omega
    ·rw[if_neg q]
     split
     ·rw[An];omega
     ·exact this
 unfold rk;cases q:lexLt l m with
 |true=>
  have:=c (a:=l) (b:=m) (fun x hx=>k4 hx q) q ls hl;exact decide_eq_true ω
 |false=>
  have:=mono (a:=m) (b:=l) (fun x hx=>by
   cases z:lexLt x l with
   |true=>rfl
   |false=>
    cases z2:lexLt l x with
    |true=>rw[k4 z2 hx] at q;cases q
    |false=>rw[B8 z z2] at hx;rw[hx] at q;cases q) ls
  exact decide_eq_false ω
structure By(prog:Program)(w:World)(A:Around)(good:Heap->Prop)(us:List Value)(ls:Ξ):Prop where
 len:us.length=ls.length
 fn:∀(i j:Nat) u l m,us[i]?=some u->us[j]?=some u->ls[i]?=some l->ls[j]?=some m->l=m
 ask:2<=us.length->∃κ:SortKind,(∀(s:Shared)(Q:SortKind->Shared->Prop)(E:Ω),good s.heap->Q κ s->wpAny (model prog w) A (keyKind' us.toArray) Q E s)/\
  ∀(i j:Nat) u v l m,us[i]?=some u->us[j]?=some v->ls[i]?=some l->ls[j]?=some m->∀(s:Shared)(Q:Bool->Shared->Prop)(E:Ω),good s.heap->Q (lexLt l m) s->wpAny (model prog w) A (keyLt' κ u v) Q E s
open Classical in
noncomputable def k5(us:List Value)(ls:Ξ)(u:Value):List Int:=if h:∃l,∃i:Nat,us[i]?=some u/\ls[i]?=some l then h.choose else []
def mN{us:List Value}{ls:Ξ}(fn:∀(i j:Nat) u l m,us[i]?=some u->us[j]?=some u->ls[i]?=some l->ls[j]?=some m->l=m){i:Nat}{u:Value}{l:List Int}(h1:us[i]?=some u)(h2:ls[i]?=some l):k5 us ls u=l:=by
 unfold k5;have h:∃l,∃i:Nat,us[i]?=some u/\ls[i]?=some l:=⟨l,i,h1,h2⟩;rw[dif_pos h];obtain⟨j,e1,e2⟩:=h.choose_spec;exact fn j i u _ l e1 h1 e2 h2
noncomputable def k7(us:List Value)(ls:Ξ)(p:Keyed):Int:=rk ls (k5 us ls p.1)
section
variable{prog:Program}{w:World}{A:Around}{E:Ω}{s:Shared}{good:Heap->Prop}{us vs:List Value}{ls:Ξ}
def mP(h:us.length=vs.length){p:Keyed}(hp:p∈(us.toArray.zip vs.toArray).toList):∃i:Nat,us[i]?=some p.1/\vs[i]?=some p.2:=by
 have e:(us.toArray.zip vs.toArray).toList=us.zip vs:=by simp
 rw[e] at hp;obtain⟨i,hi,e2⟩:=List.mem_iff_getElem.mp hp;rw[List.getElem_zip] at e2;rw[List.length_zip] at hi;refine⟨i,?_,?_⟩
 ·rw[Ae ω,<-e2]
 ·rw[Ae ω,<-e2]
def Hn(B:By prog w A good us ls)(hl:us.length=vs.length)(e:good s.heap){κ:SortKind}(h2:2<=us.length)(o:us.length<64)(hk:∀(i j:Nat) u v l m,us[i]?=some u->us[j]?=some v->ls[i]?=some l->ls[j]?=some m->∀(s:Shared)(Q:Bool->Shared->Prop)(E:Ω),good s.heap->Q (lexLt l m) s->wpAny (model prog w) A (keyLt' κ u v) Q E s){Q:Unit->SortSt->Prop}(h:∀a,(arrOf a).Perm (us.toArray.zip vs.toArray)->failedOf a=none->Tim.bD (k7 us ls) (arrOf a) 0 vs.length->Q () a):wpS (model prog w) A E s sortRuns' Q (SortSt.mk' κ (us.toArray.zip vs.toArray) #[] 7 none):=by
 have hz:(us.toArray.zip vs.toArray).size=vs.length:=by simp;omega
 refine Tim.Hm (κ:=κ) (a₀:=us.toArray.zip vs.toArray) (ρ:=k7 us ls) ⟨fun x y hx hy f g hq=>?_⟩ ⟨Array.Perm.refl _,rfl,rfl⟩ rfl (by rw[hz];omega) (by rw[hz];omega) fun a b d=>h a b.perm b.failed (by rw[<-hz];exact d);obtain⟨i,e1,_⟩:=mP hl hx;obtain⟨j,e2,_⟩:=mP hl hy;have hi:i<ls.length:=by rw[<-B.len];exact(List.getElem?_eq_some_iff.mp e1).1
 have c:j<ls.length:=by rw[<-B.len];exact(List.getElem?_eq_some_iff.mp e2).1
 have f1:ls[i]?=some ls[i]:=Ae hi;have f2:ls[j]?=some ls[j]:=Ae c;refine hk i j _ _ _ _ e1 e2 f1 f2 s f g e ?_;unfold k7 at hq;rw[mN B.fn e1 f1,mN B.fn e2 f2,B9 (A9 hi) (A9 c)] at hq;exact hq
def bw{a b:Type}:∀(l:List a)(m:List b)(i:Nat),(l.zip m)[i]?=(l[i]?).bind fun x=>(m[i]?).map fun y=>(x,y)
 |[],m,i=>by simp
 |x::l,[],i=>by cases h:(x::l)[i]?<;>simp
 |x::l,y::m,0=>rfl
 |x::l,y::m,i+1=>by
  rw[List.zip_cons_cons,List.getElem?_cons_succ,List.getElem?_cons_succ,List.getElem?_cons_succ];exact bw l m i
def Ho(B:By prog w A good us ls)(hl:us.length=vs.length){xs:Array Keyed}(hp:xs.Perm (us.toArray.zip vs.toArray))(hs:Tim.bD (k7 us ls) xs 0 vs.length):∃ps:List (List Int×Value),ps.Perm (ls.zip vs)/\xs.toList.map (·.2)=ps.map (·.2)/\ps.Pairwise fun(a b:List Int×Value)=>HT.lexLt b.1 a.1=false:=by
 have f:xs.toList.Perm (us.zip vs):=by
  have:=Array.perm_iff_toList_perm.mp hp
  simpa using this
 refine⟨xs.toList.map fun p=>(k5 us ls p.1,p.2),?_,by rw[Ap];rfl,?_⟩
 ·have e:(us.zip vs).map (fun p:Keyed=>(k5 us ls p.1,p.2))=ls.zip vs:=by
   apply List.ext_getElem?;intro i;rw[Ak,bw,bw];cases e1:us[i]? with
   |none=>
    have:ls[i]?=none:=List.getElem?_eq_none (by rw[<-B.len];exact List.getElem?_eq_none_iff.mp e1);rw[this];rfl
   |some u=>
    have hi:i<ls.length:=by rw[<-B.len];exact(List.getElem?_eq_some_iff.mp e1).1
    have f1:ls[i]?=some ls[i]:=Ae hi;rw[f1];cases e2:vs[i]? with
    |none=>rfl
    |some v=>
     show some (k5 us ls u,v)=some (ls[i],v);rw[mN B.fn e1 f1]
  rw[<-e];exact f.map _
 ·rw[A2,List.pairwise_iff_getElem]
  intro i j hi o g;have hsz:xs.size=vs.length:=by
   have:=f.length_eq;rw[A1,List.length_zip] at this;omega
  rw[A1] at hi o;have q:=hs i j (AL _) (Nat.le_of_lt g) ω;have r:xs[i]?=some xs[i]:=getElem?_pos xs i hi;have s:xs[j]?=some xs[j]:=getElem?_pos xs j o;rw[Tim.im r,Tim.im s] at q;simp only[Array.getElem_toList];obtain⟨h,g1,_⟩:=mP hl (p:=xs[i]) (by
   have:=f.mem_iff.mp (show xs[i]∈xs.toList by simp)
   simpa using this)
  obtain⟨l,g2,_⟩:=mP hl (p:=xs[j]) (by
   have:=f.mem_iff.mp (show xs[j]∈xs.toList by simp)
   simpa using this)
  have c:h<ls.length:=by rw[<-B.len];exact(List.getElem?_eq_some_iff.mp g1).1
  have d:l<ls.length:=by rw[<-B.len];exact(List.getElem?_eq_some_iff.mp g2).1
  have f1:ls[h]?=some ls[h]:=Ae c;have f2:ls[l]?=some ls[l]:=Ae d;unfold k7 at q;rw[mN B.fn g1 f1,mN B.fn g2 f2] at q ⊢;have:=B9 (ls:=ls) (A9 d) (A9 c);rw[<-this];exact decide_eq_false ω
end
end bD
end
section
namespace bD
open PySem PyProof.Rows PySem.W
section
variable{prog:Program}{w:World}{A:Around}{E:Ω}{s:Shared}{good:Heap->Prop}{us vs:List Value}{ls:Ξ}
def Hq{c:List Int}(hi:IntsAre us c):By prog w A (fun _=>True) us (c.map fun n=>[n]):=by
 have b:=hi.length;have a:∀(i:Nat) u l,us[i]?=some u->(c.map fun n=>[n])[i]?=some l->∃n t,u=.int n t/\l=[n]:=fun i u l h1 h2=>by
  obtain⟨t,e⟩:=IntsAre.int_at hi i u h1;rw[Ak] at h2;cases e2:c[i]? with
  |none=>rw[e2] at h2;cases h2
  |some n=>
   rw[e2] at h2;have e3:c.getD i 0=n:=by rw[List.getD_eq_getElem?_getD,e2];rfl
   rw[e3] at e;exact⟨n,t,e,(Am h2).symm⟩
 refine⟨by rw[Aa,b],fun i j u l m h1 h2 h3 f=>?_,fun h2=>⟨oneType',fun s Q E _ hq=>?_,fun i j u v l m h1 h2 h3 f s Q E _ hq=>?_⟩⟩
 ·obtain⟨n,t,e1,rfl⟩:=a i u l h1 h3
  obtain⟨d,t',e2,rfl⟩:=a j u m h2 f;rw[e1] at e2;cases e2
  rfl
 ·match us,hi,h2 with
  |[],_,h2=>simp at h2
  |[_],_,h2=>simp at h2
  |v₁::v₂::rest,hi,_=>
   rw[keyKind_ints hi];exact Ac hq
 ·obtain⟨n,t,rfl,rfl⟩:=a i u l h1 h3
  obtain⟨d,t',rfl,rfl⟩:=a j v m h2 f;refine kat_lt_int ?_;have:HT.lexLt [n] [d]=decide (n<d):=by
   rw[HT.zz]
   by_cases e:n=d
   ·rw[if_pos e,HT.BH];exact(decide_eq_false ω).symm
   ·rw[if_neg e]
  rw[this] at hq;exact hq
def IsPr(h:Heap)(u:Value)(l:List Int):Prop:=∃(a b:Addr)(n:Int)(t:Tok)(c:List Value)(ps:List Int),u=.ref a/\l=n::ps/\IsTup h a #[.int n t,.ref b]/\IsTup h b c.toArray/\IntsAre c ps
def IsTup.inj{h:Heap}{a:Addr}{xs ys:Array Value}(h1:IsTup h a xs)(h2:IsTup h a ys):xs=ys:=by
 obtain⟨o,e,_,n,d⟩:=h1;obtain⟨o',b,_,c,d'⟩:=h2;rw[e] at b;cases b;rw[d] at d';injection d'
def IntsAre.inj{vs:List Value}{b a:List Int}(h:IntsAre vs b)(g:IntsAre vs a):b=a:=by
 induction h generalizing a with
 |nil=>cases g;rfl
 |cons n t h ih=>cases g with|cons _ _ h'=>rw[ih h']
def IsPr.inj{h:Heap}{u:Value}{l m:List Int}(h1:IsPr h u l)(h2:IsPr h u m):l=m:=by
 obtain⟨a,b,n,t,c,ps,rfl,rfl,d,f,i1⟩:=h1;obtain⟨o,p,q,t',its',r,e,rfl,g,i,j⟩:=h2;cases e;have:=bD.IsTup.inj d g;cases this;have e2:=bD.IsTup.inj f i;have e3:c=its':=by simpa using e2
 subst e3;rw[IntsAre.inj i1 j]
def Hr{x y:Value}{l m:List Int}{Q:Bool->Shared->Prop}(h1:IsPr s.heap x l)(h2:IsPr s.heap y m)(hu:A.units<cLine)(hq:Q (HT.lexLt l m) s):wpAny (model prog w) A (keyLt' (tuples' true) x y) Q E s:=by
 obtain⟨a,b,n,t,L,ps,rfl,rfl,H,u,i1⟩:=h1;obtain⟨M,v,g,t',its',C,rfl,rfl,I,D,F⟩:=h2;obtain⟨o,e,hc,k,d⟩:=id H;obtain⟨o',J,hc',N,d'⟩:=id I;refine kat_lt e d J d' ?_;show KatLex prog w A true (decide (2<2)) Q [(.int n t,.int g t'),(.ref b,.ref v)] 0 s;rw[HT.zz] at hq;refine kat_cons (wpAny_mono (SeqAt.EqAt.int_int n t g t' prog w (fun _ _=>False) _ ⟨rfl,rfl⟩:wpAny (model prog w) A (eqBool (.int n t) (.int g t')) (fun e s'=>e=(n==g)/\s'=s) (fun _ _=>False) s) (fun e1 j he=>?_) fun _ _ z=>z);obtain⟨rfl,rfl⟩:=he
 by_cases p:n=g
 ·have r:(n==g)=true:=by simpa using p
  rw[r];rw[if_pos p] at hq;refine kat_yes (kat_cons ?_);have G:∀{c:Addr}{cs:List Value}{i:List Int},IsTup j.heap c cs.toArray->IntsAre cs i->AS (L2.zo prog w) j.heap (i.map Sum.inl) c:=fun{c cs i} hc hi=>by
   obtain⟨o,e,q,k,d⟩:=hc;refine⟨o,cs.toArray,k,e,q,d,?_⟩;have:∀{cs:List Value}{i:List Int},IntsAre cs i->ItemsAre (L2.zo prog w) (i.map Sum.inl) cs:=by
    intro cs i hi
    induction hi with
    |nil=>exact .nil
    |cons n t h ih=>exact .cons (L2.tE prog w n t) ih
   simpa using this hi
  refine wpAny_eqBool_tuple (knd:=L2.zo prog w) hu (G u i1) (G D F) ?_
  by_cases ep:ps=C
  ·subst ep
   rw[decide_eq_true rfl];rw[v1] at hq;exact kat_yes (kat_nil hq)
  ·have:¬(ps.map Sum.inl:List L2.Key)=C.map Sum.inl:=fun z=>ep (List.map_inj_right (f:=(Sum.inl:Int->L2.Key)) (fun x y h=>Sum.inl.inj h)|>.mp z)
   rw[decide_eq_false this];refine kat_no ?_;show wpAny (model prog w) A (oneLt' false (.ref b) (.ref v)) Q (fun _ _=>False) j;exact kat_one _ _ (HT.GH u D (by simpa using i1) (by simpa using F) hu hq)
 ·have r:(n==g)=false:=by simpa using p
  rw[r];rw[if_neg p] at hq;refine kat_no ?_;show wpAny (model prog w) A (oneLt' true (.int n t) (.int g t')) Q (fun _ _=>False) j;exact oneLt_int hq
def B_{h:Heap}:∀{us:List Value}{ls:Ξ},us.length=ls.length->(∀(i:Nat) u l,us[i]?=some u->ls[i]?=some l->IsPr h u l)->∃fs,KatTups h us fs/\fs.length=us.length/\∀f∈fs,∃n t,f=Value.int n t
 |[],[],_,_=>⟨[],.nil,rfl,fun f hf=>nomatch hf⟩
 |u::us,l::ls,hl,hp=>by
  obtain⟨fs,c,g,j⟩:=B_ (us:=us) (ls:=ls) (by simpa using hl) fun i u l h1 h2=>hp (i+1) u l (by simpa using h1) (by simpa using h2);obtain⟨a,b,n,t,q,ps,rfl,rfl,p,r,i1⟩:=hp 0 u l rfl rfl;obtain⟨o,e,hc,k,d⟩:=id p;refine⟨.int n t::fs,.cons e hc d rfl c,by simp[g],fun f hf=>?_⟩;rcases List.mem_cons.mp hf with rfl|hf
  ·exact⟨n,t,rfl⟩
  ·exact j f hf
 |[],_::_,h,_=>by simp at h
 |_::_,[],h,_=>by simp at h
def B'(hl:us.length=ls.length)(hu:A.units<cLine)(g:∃h,good h)(hp:∀h,good h->∀(i:Nat) u l,us[i]?=some u->ls[i]?=some l->IsPr h u l):By prog w A good us ls:=by
 refine⟨hl,fun i j u l m h1 h2 h3 b=>?_,fun h2=>⟨tuples' true,fun s Q E a hq=>?_,fun i j u v l m h1 h2 h3 b s Q E a hq=>?_⟩⟩
 ·obtain⟨h,c⟩:=g
  exact(hp h c i u l h1 h3).inj (hp h c j u m h2 b)
 ·obtain⟨fs,d,o,e⟩:=B_ hl (hp _ a)
  refine kat_kind (T:=.type "int") d ω (fun f hf=>?_) ξ hq;obtain⟨n,t,rfl⟩:=e f hf;exact Looks.of_pure rfl
 ·exact Hr (hp _ a i u l h1 h3) (hp _ a j v m h2 b) hu hq
end
def Out(ls:Ξ)(vs c:List Value):Prop:=∃ps:List (List Int×Value),ps.Perm (ls.zip vs)/\c=ps.map (·.2)/\ps.Pairwise fun(a b:List Int×Value)=>HT.lexLt b.1 a.1=false
section
variable{prog:Program}{w:World}{A:Around}{E:Ω}{s:Shared}{good:Heap->Prop}{us vs:List Value}{ls:Ξ}
def Ht(hl:ls.length=vs.length)(hu:us.length=vs.length)(h2:vs.length<2):Out ls vs ((us.toArray.zip vs.toArray).map (·.2)).toList:=by
 have e:((us.toArray.zip vs.toArray).map (·.2)).toList=vs:=by
  rw[Array.toList_map,show(us.toArray.zip vs.toArray).toList=us.zip vs by simp,List.map_snd_zip ω]
 rw[e];refine⟨ls.zip vs,List.Perm.refl _,by rw[List.map_snd_zip ω],?_⟩;have hz:(ls.zip vs).length<2:=by rw[List.length_zip];omega
 match ls.zip vs,hz with
 |[],_=>exact List.Pairwise.nil
 |[x],_=>simp
 |_::_::_,h=>simp only[An] at h;omega
def Ca(B:By prog w A good us ls)(hl:us.length=vs.length)(l:vs.length<64)(g:good s.heap){P:PySem.Fin->Shared->Prop}{G:Unit×SortSt->Sem PySem.Fin}(h:∀a,Out ls vs ((arrOf a).map (·.2)).toList->(arrOf a).size=vs.length->failedOf a=none->wpAny (model prog w) A (G (PUnit.unit,a)) P E s):wpAny (model prog w) A (if vs.toArray.size<2 then(pure general' >>= fun kind=>(if vs.toArray.size<2 then pure () else sortRuns').run (SortSt.mk' kind (us.toArray.zip vs.toArray) #[] 7 none) >>= G)
   else(keyKind' us.toArray >>= fun kind=>(if vs.toArray.size<2 then pure () else sortRuns').run (SortSt.mk' kind (us.toArray.zip vs.toArray) #[] 7 none) >>= G)) P E s:=by
 have b:(us.toArray.zip vs.toArray).size=vs.length:=by rw[Array.size_zip,Aj,Aj];omega
 by_cases h2:vs.toArray.size<2
 ·rw[if_pos h2]
  refine Ab (Ac ?_);rw[if_pos h2];rw[StateT.run_pure];refine Ab (Ac ?_)
  try dsimp only
  rw[Aj] at h2;exact h (SortSt.mk' general' (us.toArray.zip vs.toArray) #[] 7 none) (Ht (by rw[<-B.len];exact hl) hl h2) b rfl
 ·rw[if_neg h2,if_neg h2]
  rw[Aj] at h2;obtain⟨κ,i,j⟩:=B.ask ω;refine Ab (i s _ E g ?_);refine Ab (wpAny_mono (Hn (Q:=fun _ a=>(arrOf a).Perm (us.toArray.zip vs.toArray)/\failedOf a=none/\Tim.bD (k7 us ls) (arrOf a) 0 vs.length) B hl g ω ω j fun a c d f=>⟨c,d,f⟩) ?_ fun _ _ e=>e);rintro⟨⟨⟩,a⟩ s' ⟨rfl,hp,hf,hs⟩
  try dsimp only
  exact h a (by
   obtain⟨ps,c,d,f⟩:=Ho B hl hp hs;exact⟨ps,c,by rw[Array.toList_map];exact d,f⟩) (by rw[hp.size_eq];exact b) hf
def Hu{a:Addr}{n:Nat}{P:PySem.Fin->Shared->Prop}(c:s.heap.get? a=some (seqObj "list" vs.toArray n))(B:By prog w A good vs ls)(j:∀h',(∀b o,b≠a->s.heap.get? b=some o->h'.get? b=some o)->good h')(hz:vs.length<=sizeLine)(l:vs.length<64)(h:∀d:Array Value,Out ls vs d.toList->P (.done (.ret .none)) {s with heap:=sortedHeap s.heap a vs d}):wpAny (model prog w) A (Builtin.«list.sort» ⟨[.ref a],[]⟩) P E s:=by
 rw[list_sort_plain];have g:a<s⁻¹:=Ar c;refine Ab (listItems_at c rfl ?_);refine Ab (listUpdate_at c rfl ?_ (by rw[Aj];exact hz) (AL _));obtain⟨e1,f⟩:∃e1,(s.heap.update a (AA fun _=>#[])).get? a=some (seqObj "list" #[] e1):=⟨_,get?_update_seq c (fun _=>#[])⟩;refine Ab (seqEpoch_at f rfl ?_);refine Ab (wpAny_newTuple ?_ (by show vs.length<=_;exact hz));refine Ab (wpAny_newList ?_ (AL _));refine AM ?_;have i:(((s.heap.update a (AA fun _=>#[])).push (seqObj "tuple" vs.toArray 0)).push (seqObj "list" #[] 0)).get? a=some (seqObj "list" #[] e1):=by
  rw[Heap.get?_push_ne _ _ _ (by rw[size_push',Heap.size_update];exact Az (AY g)),Heap.get?_push_ne _ _ _ (by rw[Heap.size_update];exact Az g)];exact f
 show wpAny (model prog w) A _ P E {s with heap:=((s.heap.update a (AA fun _=>#[])).push (seqObj "tuple" vs.toArray 0)).push (seqObj "list" #[] 0)};dsimp only;refine Ca (s:={s with heap:=((s.heap.update a (AA fun _=>#[])).push (seqObj "tuple" vs.toArray 0)).push (seqObj "list" #[] 0)}) B rfl l (j _ fun b o hb e=>Ad _ (Ad _ (by rw[Heap.get?_update_ne _ _ _ _ hb];exact e))) fun p c hsz hf=>?_;dsimp only;refine Ab (seqEpoch_at i rfl ?_);refine Ab (listUpdate_at i rfl ?_ (AL _) (AD (Nat.le_of_eq ((Array.size_map ..).trans hsz)) (Nat.le_succ_of_le hz)));rw[hf];simp only[bne_self_eq_false,Au,if_false];exact Ac (h _ c)
def Ce{l:Addr}{Q:Ω}(hl:s.heap.IsList l vs.toArray)(B:By prog w A.in1.in1 good vs ls)(f:∀h',(∀b o,s.heap.get? b=some o->h'.get? b=some o)->good h')(hz:vs.length<=sizeLine)(g:vs.length<64)(h:∀d:Array Value,Out ls vs d.toList->Q (.ref (s⁻¹+1)) {s with heap:=sortedAll s.heap vs d}):wpAny (model prog w) A (call (.builtin "sorted") [.ref l]) Q E s:=by
 refine Calls.call_function_entry kind_sorted plain_sorted entry_sorted (args_sorted1 _) ?_;unfold Builtin.«sorted»;refine Ab (m:=checkCount "sorted" 1 1 _) (Ac ?_);refine Ab (collect_list hl ?_ hz);refine Ab (wpAny_newList ?_ hz);have hsz:((s.heap.push (seqObj "list" #[] 0)).update s⁻¹ (AA (·++vs.toArray))).objs.size=s⁻¹+1:=by
  rw[Heap.size_update,size_push']
 have c:(((s.heap.push (seqObj "list" #[] 0)).update s⁻¹ (AA (·++vs.toArray))).push (seqObj "list" vs.toArray 0)).get? (s⁻¹+1)=some (seqObj "list" vs.toArray 0):=by
  rw[<-hsz];exact Ao _ rfl
 have keep:∀b o,s.heap.get? b=some o->(((s.heap.push (seqObj "list" #[] 0)).update s⁻¹ (AA (·++vs.toArray))).push (seqObj "list" vs.toArray 0)).get? b=some o:=fun b o q=>by
  have a:b<s⁻¹:=Ar q;rw[Heap.get?_push_ne _ _ _ (by rw[hsz];exact Az (AY a)),Heap.get?_update_ne _ _ _ _ (Az a),Heap.get?_push_ne _ _ _ (Az a)];exact q
 show wpAny _ _ _ _ _ {s with heap:=((s.heap.push (seqObj "list" #[] 0)).update s⁻¹ (AA (·++vs.toArray))).push (seqObj "list" vs.toArray 0)};rw[hsz];refine Ab (AM (wpAny_call_entry slot_list_sort ⟨_,c,rfl⟩ entry_list_sort (Hu (s:={s with heap:=((s.heap.push (seqObj "list" #[] 0)).update s⁻¹ (AA (·++vs.toArray))).push (seqObj "list" vs.toArray 0)}) c B (fun h' hk=>f h' fun b o q=>hk b o (Az (AY (Ar q))) (keep b o q)) hz g fun d e=>⟨_,rfl,?_⟩) (args_list_sort _)));exact Ac ⟨_,rfl,h d e⟩
def Hv{a kS:Addr}{l:Array Value}{e e1:Nat}{st:SortSt}{P:PySem.Fin->Shared->Prop}(p:s.heap.get? kS=some (seqObj "list" l e))(v:s.heap.get? a=some (seqObj "list" #[] e1))(r:kS≠a)(x:l.size<=sizeLine)(y:Out ls vs ((arrOf st).map (·.2)).toList)(hsz:(arrOf st).size=vs.length)(hz:vs.length<=sizeLine)(z:failedOf st=none)(h:∀h' g c,(∀b o,b≠kS->b≠a->s.heap.get? b=some o->h'.get? b=some o)->h'.get? a=some (seqObj "list" g c)->(∃o,h'.get? kS=some o)->Out ls vs g.toList->h'.objs.size=s⁻¹->P (.done (.ret .none)) {s with heap:=h'}):wpAny (model prog w) A (ksk_tail a false e1 (.ref kS) st) P E s:=by
 have i:=AO s.heap kS (AA fun _=>(#[]:Array Value));have f:(s.heap.update kS (AA fun _=>(#[]:Array Value))).get? a=some (seqObj "list" #[] e1):=(i.2 a r.symm).trans v;have j:=AO (s.heap.update kS (AA fun _=>(#[]:Array Value))) a (AA fun _=>(arrOf st).map (·.2));obtain⟨d,u⟩:∃d,((s.heap.update kS (AA fun _=>(#[]:Array Value))).update a (AA fun _=>(arrOf st).map (·.2))).get? a=some (seqObj "list" ((arrOf st).map (·.2)) d):=
  ⟨_,get?_update_seq f fun _=>(arrOf st).map (·.2)⟩
 unfold ksk_tail
 try dsimp only
 simp only[Au,if_false];refine Ab (listUpdate_at p rfl ?_ x (AL _));refine Ab (wpAny_letGo ?_);refine Ab (seqEpoch_at f rfl ?_);refine Ab (listUpdate_at f rfl ?_ (AL _) (AD (Nat.le_of_eq ((Array.size_map ..).trans hsz)) (Nat.le_succ_of_le hz)));rw[z];simp only[bne_self_eq_false,Au,if_false];refine Ac (h _ _ d (fun b o h1 h2 q=>(j.2 b h2).trans ((i.2 b h1).trans q)) u ⟨_,(j.2 kS r).trans (get?_update_seq p fun _=>#[])⟩ y (by rw[Heap.size_update,Heap.size_update]))
end
end bD
end
section
namespace L2
open PySem PySem.Spec PyProof.Rows
def clOf(cells:List (Str×Addr)):List (Str×NameKind)->List (Str×Addr)->List (Str×Addr)
 |[],acc=>acc
 |(n,k)::r,acc=>if(k==.free)=true then clOf cells r ((n,(cells.lookup n).getD 0)::acc) else clOf cells r acc
def Cg{env:Env}:∀(names:List (Str×NameKind))(acc:List (Str×Addr)),(∀x∈names,x.2=.free->∃c,env.cells.lookup x.1=some c)-> (forIn names acc fun x(r:List (Str×Addr))=>if(x.2==.free)=true then do let c <-cellOf env x.1;pure (ForInStep.yield ((x.1,c)::r)) else pure (ForInStep.yield r):Sem (List (Str×Addr)))=pure (clOf env.cells names acc)
 |[],acc,_=>rfl
 |(n,k)::r,acc,h=>by
  rw[List.forIn_cons];have b:=fun a=>Cg (env:=env) r a fun x hx=>h x (Aq _ hx);unfold clOf
  by_cases hk:(k==Ba)=true
  ·have hk':k=.free:=by cases k<;>first|rfl|cases hk
   obtain⟨c,hc⟩:=h (n,k) As hk';simp only[hk,if_true];unfold cellOf;rw[hc];simp only[pure_bind,Option.getD_some];exact b _
  ·simp only[hk,Au,if_false,pure_bind]
   exact b _
def Hw{scope:Scope}{env:Env}(h:∀x∈scope.names,x.2=.free->∃c,env.cells.lookup x.1=some c):closureFor scope env=pure (clOf env.cells scope.names []):=by
 rw[<-Cg scope.names [] h];unfold closureFor;simp
def v8{x:Str}{c:Addr}:∀{l:List (Str×Addr)},(x,c)∈l->∃d,l.lookup x=some d
 |[],h=>nomatch h
 |(y,d)::l,h=>by
  rw[A8]
  by_cases e:x=y
  ·subst e;exact⟨d,by simp⟩
  ·have hb:(x==y)=false:=by simpa using e
   rw[hb];rcases List.mem_cons.mp h with q|q
   ·cases q;exact absurd rfl e
   ·exact v8 q
def pR{cells:List (Str×Addr)}{x:Str}:∀{names:List (Str×NameKind)}{acc:List (Str×Addr)},((x,Ba)∈names\/∃c,(x,c)∈acc)->∃c,(x,c)∈clOf cells names acc
 |[],acc,h=>h.elim (fun q=>nomatch q) id
 |(n,k)::r,acc,h=>by
  unfold clOf
  by_cases hk:(k==Ba)=true
  ·rw[if_pos hk]
   refine pR ?_;rcases h with h|⟨c,h⟩
   ·rcases List.mem_cons.mp h with q|q
    ·cases q;exact .inr ⟨_,As⟩
    ·exact .inl q
   ·exact .inr ⟨c,Aq _ h⟩
  ·rw[if_neg hk]
   refine pR ?_;rcases h with h|h
   ·rcases List.mem_cons.mp h with q|q
    ·cases q;exact absurd rfl hk
    ·exact .inl q
   ·exact .inr h
def gh(X:Cx)(scope:Scope)(N:List Str)(a:List (Str×Addr))(C:Addr)(s₀:Shared)(H₀:Hp)(ex:List Addr):Cx where
 prog:=X.prog
 w:=X.w
 K:=X.K
 mg:=X.mg
 base:=X.base
 A:=X.A
 N:=N
 s₀:=s₀
 H₀:=H₀
 env:=compEnvC scope a C X.env
 outer:=X.stack
 stack:=X.stack
 ex:=ex
 fn:=fun _=>false
 calm:=X.calm
 pn:=X.pn
 xe:=fun _ _=>False
def io(X:Cx)(aZ:List Expr)(t:TT):Prop:=
 ∀(aa:Ψ)(s:Shared)(σ:St)(H:Hp)(Q:Bool->Hp->Prop),Inv X aa σ H s->t σ H Q->
  wpAny (model X.prog X.w) X.A (forIn aZ true fun c r=>if r=true then do let ok <-isTrue c X.env (eval c X.env);pure (ForInStep.yield ok) else pure (ForInStep.yield r)) (TP X aa σ Q) X.xe s
def ce:TT:=fun _ H Q=>Q true H
def eX{X:Cx}:io X [] ce:=fun _ _ _ H _ I h=>wpAny_tests_nil ⟨H,I,h⟩
def g0{X:Cx}{c:Expr}{t:TT}(h:PT X c t):io X [c] t:=fun aa s σ H Q I hw=>wpAny_tests_one (h aa s σ H Q I hw)
def mT(av:List (Option Nat))(σ:St):St:=av.map fun c=>match c with
 |none=>none
 |some j=>(σ[j]?).getD none
def cg(J:It)(g:TG)(tc:TT)(te:TE)(σ:St)(H1:Hp)(D:Addr)(Q:VK):Prop:=
 ∃W:Nat->Nat->St->Hp->Prop,(∃m,W 0 m σ (upd H1 D (.lst [])))/\
 ∀i m d H2,W i m d H2->(J.stop i H2/\Q (.ref D) H2)\/(J.go i H2/\∀x h,J.yld i H2 x h->g x d h fun c j=>tc c j fun b e=>
  if b=true then te c e fun y f=>∃ys a,f D=some (.lst ys)/\ys.length<sizeLine/\a<m/\W (i+1) a c (upd f D (.lst (ys++[y])))
  else ∃a,a<m/\W (i+1) a c e)
def jz(wi:TI)(av:List (Option Nat))(g:TG)(tc:TT)(te:TE):TE:=fun σ H Q=>wi σ H fun J H1=>∀D,H1 D=none->cg J g tc te (mT av σ) H1 D Q
def mZ(N N':List Str)(av:List (Option Nat))(scope:Scope):Prop:=
 av.length=N'.length/\∀i j:Nat,av[i]?=some (some j)->∃x:Str,N'[i]?=some x/\N[j]?=some x/\scope.names.lookup x=some .free
def pS{cells:List (Str×Addr)}{x:Str}{c:Addr}:∀{names:List (Str×NameKind)}{acc:List (Str×Addr)},(∀y∈names,y.2=.free->∃d,cells.lookup y.1=some d)->(∀p∈acc,False)->(x,c)∈clOf cells names acc->cells.lookup x=some c/\(x,Ba)∈names:=by
 have f:∀{names:List (Str×NameKind)}{acc:List (Str×Addr)},(∀y∈names,y.2=.free->∃d,cells.lookup y.1=some d)->(x,c)∈clOf cells names acc->(x,c)∈acc\/(cells.lookup x=some c/\(x,Ba)∈names):=by
  intro names
  induction names with
  |nil=>intro acc _ h;exact .inl h
  |cons y r g=>
   intro acc hn h;obtain⟨n,k⟩:=y;unfold clOf at h;have a:∀y∈r,y.2=.free->∃d,cells.lookup y.1=some d:=fun y hy=>hn y (Aq _ hy)
   by_cases hk:(k==Ba)=true
   ·have hk':k=.free:=by cases k<;>first|rfl|cases hk
    obtain⟨d,hd⟩:=hn (n,k) As hk';rw[if_pos hk] at h;rcases g a h with q|⟨b,e⟩
    ·rcases List.mem_cons.mp q with q|q
     ·refine .inr ⟨?_,?_⟩
      ·have i:cells.lookup n=some d:=hd
       rw[i] at q;cases q;exact i
      ·cases q
       rw[hk'];exact As
     ·exact .inl q
    ·exact .inr ⟨b,Aq _ e⟩
   ·rw[if_neg hk] at h
    rcases g a h with q|⟨b,e⟩
    ·exact .inl q
    ·exact .inr ⟨b,Aq _ e⟩
 intro names acc hn j h;rcases f hn h with q|q
 ·exact(j _ q).elim
 ·exact q
def cf_mem:∀(names:List (Str×NameKind))(h:Heap)(acc:List (Str×Addr))(x:Str)(c:Addr),(x,c)∈cellsFrom h.objs.size names acc->(x,c)∈acc\/((x,NameKind.cell)∈names/\h.objs.size<=c/\(pushCells h names).IsCell c none)
 |[],h,acc,x,c,hm=>.inl hm
 |(n,k)::r,h,acc,x,c,hm=>by
  rw[cellsFrom.eq_2] at hm;have ep:pushCells h ((n,k)::r)=if(k==NameKind.cell)=true then pushCells (h.push {cls:=Value.type "cell",data:=Data.cell none}) r else pushCells h r:=rfl
  by_cases hk:(k==NameKind.cell)=true
  ·have hk':k=.cell:=by cases k<;>first|rfl|cases hk
   rw[if_pos hk] at hm;rw[ep,if_pos hk];have es:(h.push {cls:=Value.type "cell",data:=Data.cell none}).objs.size=h.objs.size+1:=Heap.size_push ..;rw[<-es] at hm;rcases cf_mem r _ _ x c hm with q|⟨b,a,d⟩
   ·rcases List.mem_cons.mp q with q|q
    ·cases q
     refine .inr ⟨by rw[hk'];exact As,Ag _,_,pushCells_keeps r _ _ _ (Ao _ rfl),rfl⟩
    ·exact .inl q
   ·rw[es] at a
    exact .inr ⟨Aq _ b,Nat.le_of_succ_le a,d⟩
  ·rw[if_neg hk] at hm
   rw[ep,if_neg hk];rcases cf_mem r h acc x c hm with q|⟨b,a,d⟩
   ·exact .inl q
   ·exact .inr ⟨Aq _ b,a,d⟩
def v':∀(names:List (Str×NameKind))(n:Nat)(acc:List (Str×Addr)),(∀x y c,(x,c)∈acc->(y,c)∈acc->x=y)->(∀p∈acc,p.2<n)->∀x y c,(x,c)∈cellsFrom n names acc->(y,c)∈cellsFrom n names acc->x=y
 |[],n,acc,hi,_,x,y,c,h1,h2=>hi x y c h1 h2
 |(m,k)::r,n,acc,hi,hl,x,y,c,h1,h2=>by
  rw[cellsFrom.eq_2] at h1 h2
  by_cases hk:(k==NameKind.cell)=true
  ·rw[if_pos hk] at h1 h2
   refine v' r (n+1) ((m,n)::acc) (fun x y c p q=>?_) (fun p hp=>?_) x y c h1 h2
   ·rcases List.mem_cons.mp p with p|p<;>rcases List.mem_cons.mp q with q|q
    ·cases p;cases q;rfl
    ·cases p
     have:n<n:=hl _ q;omega
    ·cases q
     have:n<n:=hl _ p;omega
    ·exact hi x y c p q
   ·rcases List.mem_cons.mp hp with rfl|hp
    ·exact Nat.lt_succ_self _
    ·exact AY (hl p hp)
  ·rw[if_neg hk] at h1 h2
   exact v' r n acc hi hl x y c h1 h2
def Hx{M:Model}{A:Around}{E:Ω}{s:Shared}{scope:Scope}{globals:Addr}{a:List (Str×Addr)}{f:Str}{env:Env}{Q:Env->Shared->Prop}(h:∀d:Heap,(d.Ns s⁻¹ fun _=>none)->(∀b o,s.heap.get? b=some o->d.get? b=some o)->
   (∀x c,(x,c)∈cellsFrom (s⁻¹+1) scope.names a->(x,c)∈a\/((x,NameKind.cell)∈scope.names/\s⁻¹+1<=c/\d.IsCell c none))->
   Q (newEnv scope s⁻¹ globals (cellsFrom (s⁻¹+1) scope.names a) f none .none (some env) builtinsNs) {s with heap:=d}):
  wpAny M A (newFunctionEnv scope globals a [] f none Value.none (some env)) Q E s:=by
 unfold newFunctionEnv;refine Ab (wpAny_alloc ?_);refine Ab (wpAny_layCells _ (fun name kind cells=>rfl) scope.names a _ _ ?_);have es:(s.heap.push {cls:=Value.type "dict",data:=Data.dict #[]}).objs.size=s⁻¹+1:=Heap.size_push ..;have:=h (pushCells (s.heap.push {cls:=Value.type "dict",data:=Data.dict #[]}) scope.names) ((Heap.Ns.new s.heap (.type "dict")).keeps fun b o e=>pushCells_keeps _ _ _ _ e) (fun b o e=>pushCells_keeps _ _ _ _ (Ad _ e)) (fun x c hm=>by
  rw[<-es] at hm ⊢;exact cf_mem scope.names _ a x c hm)
 show wpAny M A _ _ _ _;refine Ab (Ac ?_);refine Ac ?_;rw[<-es] at this;exact this
def cxD(X:Cx)(scope:Scope)(N:List Str)(a:List (Str×Addr))(C:Addr)(s₀:Shared)(H₀:Hp)(ex:List Addr):Cx:={gh X scope N a C s₀ H₀ ex with fn:=fun x=>decide (scope.names.lookup x=some .cell)}
section
variable{X:Cx}{scope:Scope}{N':List Str}{av:List (Option Nat)}{tg iter bJ:Expr}{aZ:List Expr}{wi:TI}{g:TG}{tc:TT}{te:TE}{pos:Pos}
def wg{scope:Scope}{env:Env}{x:Str}:∀{names:List (Str×NameKind)},(names.lookup x=some .free\/names.lookup x=some .cell)-> ((names.map fun(n,k)=>if(k==Ba&&env.scope.kind==.function&&env.kindOf n==some .cell) then(n,NameKind.cell) else(n,k)).lookup x=some .free \/
   (names.map fun(n,k)=>if(k==Ba&&env.scope.kind==.function&&env.kindOf n==some .cell) then(n,NameKind.cell) else(n,k)).lookup x=some .cell)
 |[],h=>by simp at h
 |(n,k)::r,h=>by
  have a:=@wg scope env x r;show List.lookup x ((if(k==Ba&&env.scope.kind==.function&&env.kindOf n==some .cell)=true then(n,NameKind.cell) else(n,k))::_)=_\/List.lookup x ((if(k==Ba&&env.scope.kind==.function&&env.kindOf n==some .cell)=true then(n,NameKind.cell) else(n,k))::_)=_;cases hx:x==n with
  |true=>
   simp only[A8,hx] at h
   by_cases hc:(k==Ba&&env.scope.kind==.function&&env.kindOf n==some .cell)=true
   ·rw[if_pos hc];simp[A8,hx]
   ·rw[if_neg hc];simp only[A8,hx];exact h
  |false=>
   simp only[A8,hx] at h
   by_cases hc:(k==Ba&&env.scope.kind==.function&&env.kindOf n==some .cell)=true
   ·rw[if_pos hc];simp only[A8,hx];exact a h
   ·rw[if_neg hc];simp only[A8,hx];exact a h
def wl{env:Env}{x:Str}{a:NameKind}:∀{names:List (Str×NameKind)},(names.map fun(n,k)=>if(k==Ba&&env.scope.kind==.function&&env.kindOf n==some .cell) then(n,NameKind.cell) else(n,k)).lookup x=some a->
  ∃b,names.lookup x=some b/\(a=b\/(b=.free/\a=.cell))
 |[],h=>by simp at h
 |(n,k)::r,h=>by
  have c:=@wl env x a r;have h':List.lookup x ((if(k==Ba&&env.scope.kind==.function&&env.kindOf n==some .cell)=true then(n,NameKind.cell) else(n,k))::_)=some a:=h;cases hx:x==n with
  |true=>
   simp only[A8,hx]
   by_cases hc:(k==Ba&&env.scope.kind==.function&&env.kindOf n==some .cell)=true
   ·rw[if_pos hc] at h'
    simp only[A8,hx] at h';cases h';have hk:k=.free:=by
     rw[AI,AI] at hc;cases k<;>first|rfl|exact absurd hc.1.1 ξ
    exact⟨k,rfl,.inr ⟨hk,rfl⟩⟩
   ·rw[if_neg hc] at h'
    simp only[A8,hx] at h';cases h';exact⟨_,rfl,.inl rfl⟩
  |false=>
   simp only[A8,hx]
   by_cases hc:(k==Ba&&env.scope.kind==.function&&env.kindOf n==some .cell)=true
   ·rw[if_pos hc] at h';simp only[A8,hx] at h';exact c h'
   ·rw[if_neg hc] at h';simp only[A8,hx] at h';exact c h'
structure Left(X:Cx)(aa:Ψ)(σ:St)(H':Hp)(s4:Shared)(C:Addr):Prop where
 ns:∃m,s4.heap.Ns C m
 far:X.s₀⁻¹<=C
 nl:C≠X.env.locals
 nc:∀x c,X.env.cells.lookup x=some c->c≠C
 np:∀p∈X.pn++aa,p.1≠C
 no:H' C=none
 back:∀h',A6 C s4.heap h'->Inv X aa σ H' {s4 with heap:=h'}
def Ci{use:Option (Value->Sem Unit)}{R:Ω}{pp:Pos}(hc:X.calm=true)(hk:scope.kind=.function)(bE:∀y∈scope.names,y.2=.cell->scope.names.lookup y.1=some .cell)(aI:∀y∈scope.names,y.2=.free->scope.names.lookup y.1=some .free)(aE:∀y∈scope.names,y.2=.local->scope.names.lookup y.1=some .local)(hfr:∀y∈scope.names,y.2=.free->X.env.kindOf y.1=some .cell\/X.env.kindOf y.1=some .free)(bh:mZ X.N N' av scope)(hi:PI X tg iter wi)(hg:∀cl C s₀ H₀ ex,PG (cxD X scope N' cl C s₀ H₀ ex) tg g)(ht:∀cl C s₀ H₀ ex,io (cxD X scope N' cl C s₀ H₀ ex) aZ tc)(he:∀cl C s₀ H₀ ex,PE (cxD X scope N' cl C s₀ H₀ ex) bJ te)(hs:∀x,foldedSetIterable iter X.env x=pure x){aa:Ψ}{s:Shared}{σ:St}{H:Hp}{Q:VK}(I:Inv X aa σ H s)(h:jz wi av g tc te σ H Q)(fin:∀(D C:Addr)(H':Hp)(O:Shared)(f:Flow),Left X aa σ H' O C->Q (.ref D) H'->compPost (model X.prog X.w) X.A X.xe use R (.ref D) C (.ok f) O):wpAny (model X.prog X.w) X.A (comprehension (.ListComp bJ [⟨tg,iter,aZ,0⟩] scope pos) scope X.env pp (newList []) (firstAsync [⟨tg,iter,aZ,0⟩]) (firstIter [⟨tg,iter,aZ,0⟩] X.env) use) R X.xe s:=by
 have P:∀y∈scope.names,y.2=.free->∃c,X.env.cells.lookup y.1=some c:=fun y hy e=>I.ok.has y.1 (hfr y hy e);refine wpAny_comprehension_free (use:=use) rfl hs (Hw P) hk aE ?_;refine aP (hi aa s σ H _ I h) fun xv s1 h1=>aP h1 fun oy M h2=>?_;obtain⟨it,fp,tn,J,H2,e,I2,T,db,f2,q⟩:=h2;subst e;have iI:H2 M⁻¹=none:=I2.hok.fresh (Ag _);obtain⟨W,⟨m0,w0⟩,turn⟩:=q M⁻¹ iI;refine Bb (Hx fun aY cq bU bV=>?_);dsimp only at cq bU bV ⊢;generalize hD:M⁻¹=D at *;obtain⟨l,e3⟩:∃l:Shared,l={M with heap:=M.heap.push {cls:=.type "list",dict:=none,data:=.seq ([]:List Value).toArray}}:=⟨_,rfl⟩;have h3:l.heap=M.heap.push {cls:=.type "list",dict:=none,data:=.seq ([]:List Value).toArray}:=by rw[e3]
 rw[<-h3] at cq bU bV ⊢;have S:l⁻¹=D+1:=by rw[h3,Heap.size_push,hD]
 have I3:Inv X aa σ (upd H2 D (.lst [])) l:=by
  rw[e3,<-hD];exact I2.lnew (t':=M.toks) (ys:=[]) .nil (AL _)
 obtain⟨Xc,E⟩:∃Xc,Xc=cxD X scope N' (cellsFrom (l⁻¹+1) scope.names (clOf X.env.cells scope.names [])) l⁻¹ l (upd H2 D (.lst [])) fp:=⟨_,rfl⟩;have ii:PG Xc tg g:=by rw[E];exact hg _ _ _ _ _
 have ht':io Xc aZ tc:=by rw[E];exact ht _ _ _ _ _
 have he':PE Xc bJ te:=by rw[E];exact he _ _ _ _ _
 have xP:Xc.prog=X.prog:=by rw[E];rfl
 have xw:Xc.w=X.w:=by rw[E];rfl
 have xK:Xc.K=X.K:=by rw[E];rfl
 have xA:Xc.A=X.A:=by rw[E];rfl
 have xc:Xc.calm=true:=by rw[E];exact hc
 have xe:Xc.env=compEnvC scope (cellsFrom (l⁻¹+1) scope.names (clOf X.env.cells scope.names [])) l⁻¹ X.env:=by rw[E];rfl
 have xE:Xc.xe=fun _ _=>False:=by rw[E];rfl
 have G:∀x c,(cellsFrom (l⁻¹+1) scope.names (clOf X.env.cells scope.names [])).lookup x=some c->(X.env.cells.lookup x=some c/\scope.names.lookup x=some .free)\/(scope.names.lookup x=some .cell/\l⁻¹+1<=c/\aY.IsCell c none):=fun x c e=>by
  rcases bV x c (PySem.mem_of_lookup e) with q|⟨q1,q2,q3⟩
  ·obtain⟨q4,q5⟩:=pS P (fun p hp=>absurd hp (by simp)) q
   exact .inl ⟨q4,aI _ q5 rfl⟩
  ·exact .inr ⟨bE _ q1 rfl,q2,q3⟩
 have hlow:∀p∈clOf X.env.cells scope.names [],p.2<l⁻¹+1:=fun p hp=>by
  obtain⟨q4,_⟩:=pS P (fun p hp=>absurd hp (by simp)) (x:=p.1) (c:=p.2) hp;obtain⟨v,o,ho,_⟩:=I3.cell p.1 p.2 q4;exact AY (Ar ho)
 have U:∀b∈fp,b≠D/\b<D:=fun b hb=>by
  obtain⟨ob,eb,_⟩:=T.obj 0 _ db b hb;have:=Ar eb;rw[hD] at this;exact⟨Az this,this⟩
 have hfs:∀b∈frs X.stack,b<D:=fun b hb=>by
  obtain⟨_,ob,eb,_⟩:=I2.stack.mem hb;have:=Ar eb;rw[hD] at this;exact this
 have F:∀b o,l.heap.get? b=some o->aY.get? b=some o:=bU;have vI:(upd H2 D (.lst [])) l⁻¹=none:=I3.hok.fresh (Ag _);have Ic:Inv Xc aa (mT av σ) (upd H2 D (.lst [])) {l with heap:=aY}:=by
  have okc:Xc.Ok:=by
   rw[E];refine⟨I.ok.mod,hk,I.ok.glob,I.ok.blt,Ag _,fun x y c a b=>v' scope.names _ _ (fun x y c p q=>I.ok.inj x y c (pS P (fun p hp=>absurd hp (by simp)) p).1 (pS P (fun p hp=>absurd hp (by simp)) q).1) hlow x y c (PySem.mem_of_lookup a) (PySem.mem_of_lookup b),fun x hx=>?_,(fun x c a e=>by
    rcases G x c e with ⟨_,q⟩|⟨_,q,_⟩
    ·have a':=of_decide_eq_true a
     rw[q] at a';cases a'
    ·exact Nat.le_of_succ_le q),I.ok.hd,I.ok.frames,.inl rfl,fun b hb=>⟨?_,fun x c e=>?_⟩,fun b o e=>?_,?_,fun b o e z=>?_,fun b hb z=>?_,?_,fun b hb=>?_⟩
   ·have hx':(relabel scope X.env).names.lookup x=some .cell\/(relabel scope X.env).names.lookup x=some .free:=hx
    have key:∃k',scope.names.lookup x=some k'/\(k'=.free\/k'=.cell):=by
     rcases hx' with q|q
     ·obtain⟨k',e1,e2⟩:=wl q
      rcases e2 with e2|⟨e2,_⟩
      ·exact⟨k',e1,.inr e2.symm⟩
      ·exact⟨k',e1,.inl e2⟩
     ·obtain⟨k',e1,e2⟩:=wl q
      rcases e2 with e2|⟨e2,_⟩
      ·exact⟨k',e1,.inl e2.symm⟩
      ·exact⟨k',e1,.inl e2⟩
    obtain⟨k',e1,e2⟩:=key;have hm:=PySem.mem_of_lookup e1;rcases e2 with rfl|rfl
    ·obtain⟨c,hc'⟩:=pR (cells:=X.env.cells) (acc:=[]) (.inl hm)
     obtain⟨d,hd⟩:=v8 hc';exact Option.isSome_iff_exists.mp (PySem.W.cellsFrom_some scope.names (l⁻¹+1) _ (.inr (by rw[hd];rfl)))
    ·exact Option.isSome_iff_exists.mp (PySem.W.cellsFrom_some scope.names (l⁻¹+1) _ (.inl e1))
   ·show b≠l⁻¹
    exact Az (by rw[S];exact AY (U b hb).2)
   ·rcases G x c e with ⟨q,_⟩|⟨_,q,_⟩
    ·exact(f2 b hb).2.2.2.2.1 x c q
    ·have h1:b<l⁻¹+1:=by rw[S];exact AY (AY (U b hb).2)
     exact Nat.ne_of_gt (AC h1 q)
   ·exact I3.bs b o e
   ·exact AD I.ok.bsz I3.sz
   ·obtain⟨f,_,_,fx,_,_⟩:=f2 b z
    rcases fx with fx|fx
    ·exact I.ok.noex b o e fx
    ·have:=AC (Ar e) I.ok.bsz
     omega
   ·rcases List.mem_cons.mp (I2.stkSub b z) with r|r
    ·exact(f2 b hb).2.1 r
    ·exact(f2 b hb).2.2.1 r
   ·exact I3.stack
   ·exact I3.stkFree b hb
  refine⟨okc,(by rw[E];rfl),I3.bare,?_,?_,fun x c e=>?_,?_,fun x c e=>?_,fun p hp=>?_,?_,?_⟩
  ·rw[E]
   exact Un.kept F
  ·rw[xe]
   refine⟨_,cq,fun i x v e1 e2 e3=>?_⟩;obtain⟨c1,c2⟩:=bh;unfold mT at e2;rw[Ak] at e2;cases e4:av[i]? with
   |none=>rw[e4] at e2;cases e2
   |some cc=>
    rw[e4] at e2;cases cc with
    |none=>cases e2
    |some j=>
     obtain⟨y,d1,d2,d3⟩:=c2 i j e4;have cp:N'[i]?=some x:=by rw[E] at e1;exact e1
     rw[d1] at cp;have vG:y=x:=Am cp;subst vG;have e5:σ[j]?=some (some v):=by
      simp only[Option.map_some,Option.some.injEq] at e2;cases e6:σ[j]? with
      |none=>rw[e6] at e2;cases e2
      |some ov=>rw[e6] at e2;simp only[Option.getD_some] at e2;rw[e2]
     have hm:=PySem.mem_of_lookup d3;have um:oT X.env.scope y:=by
      rcases hfr _ hm rfl with q|q
      ·exact .inr (.inl q)
      ·exact .inr (.inr q)
     obtain⟨m,_,hl⟩:=I3.loc;obtain⟨u,ru,lk⟩:=hl j y v d2 e5 um;refine⟨u,ru,?_⟩;have wm:∃c,X.env.cells.lookup y=some c/\l.heap.IsCell c (some u):=by
      rcases lk with ⟨k1,_⟩|⟨_,c,k2,k3⟩
      ·rcases hfr _ hm rfl with q|q
       ·rw[k1] at q;cases q
       ·rw[k1] at q;cases q
      ·exact⟨c,k2,k3⟩
     obtain⟨c,k2,k3⟩:=wm;obtain⟨d,dP⟩:=pR (cells:=X.env.cells) (acc:=[]) (.inl hm);obtain⟨d',aL⟩:=v8 dP;obtain⟨d2,cJ⟩:=Option.isSome_iff_exists.mp (PySem.W.cellsFrom_some scope.names (l⁻¹+1) (clOf X.env.cells scope.names []) (x:=y) (.inr (by rw[aL];rfl)));have:c=d2:=by
      rcases G y d2 cJ with ⟨q,_⟩|⟨q,_⟩
      ·rw[k2] at q
       exact Am q
      ·rw[d3] at q;cases q
     subst this;refine .inr ⟨?_,c,cJ,k3.keeps F⟩;have rl:=wg (scope:=scope) (env:=X.env) (x:=y) (names:=scope.names) (.inl d3);rcases rl with q|q
     ·exact .inr q
     ·exact .inl q
  ·rw[xe] at e
   rcases G x c e with ⟨q,_⟩|⟨_,_,q⟩
   ·obtain⟨v,k3⟩:=I3.cell x c q
    exact⟨v,k3.keeps F⟩
   ·exact⟨_,q⟩
  ·rw[xe];exact vI
  ·rw[xe] at e
   rcases G x c e with ⟨q,_⟩|⟨_,q,_⟩
   ·exact I3.freeC x c q
   ·exact I3.hok.fresh (Nat.le_of_succ_le q)
  ·have bP:p∈X.pn++aa:=by rw[E] at hp;exact hp
   obtain⟨a1,a2,a3,a4,a5⟩:=I3.pin p bP;refine⟨F _ _ a1,a2,?_,?_,a5⟩
   ·rw[xe]
    show p.1≠l⁻¹;exact Az (Ar a1)
   ·rw[E]
    intro z;rcases List.mem_cons.mp (I3.stkSub p.1 z) with r|r
    ·exact a3 r
    ·exact a4 r
  ·rw[xP,xw]
   exact I3.hok.kept F
  ·unfold mT
   rw[Aa,bh.1,E]
   rfl
 have leave:∀{L:St}{H':Hp}{O:Shared}{h':Heap},Inv Xc aa L H' O->A6 l⁻¹ O.heap h'->Inv X aa σ H' {O with heap:=h'}:=fun{L H' O h'} I4 aA=>by
  have hlt:∀b o,M.heap.get? b=some o->b≠D/\b≠l⁻¹:=fun b o e=>by
   have hb:=Ar e;rw[hD] at hb;exact⟨Az hb,Az (by rw[S];exact AY hb)⟩
  have up3:∀b o,M.heap.get? b=some o->l.heap.get? b=some o:=fun b o e=>by rw[h3];exact Ad _ e
  have base:Un (frs X.stack) fp (upd H2 D (.lst [])) H' l.heap O.heap:=by
   have:=I4.base;rw[E] at this;exact this
  have hCn:H' l⁻¹=none:=by
   have:=I4.free;rw[xe] at this;exact this
  have os4:O.os=M.os:=by
   have:=I4.os;rw[E] at this;rw[this];show l.os=M.os;rw[e3]
  refine I2.call' (s':={O with heap:=h'}) (ch:=fp) os4 ⟨fun b o q n hb hx=>?_,fun b o q n hb hx=>?_,fun b o q n hx=>?_,fun b o q hx=>?_,fun b xs q=>?_,fun b o u q=>?_,fun b ps q=>?_⟩ ?_ I4.bare fun b hb=>?_
  ·obtain⟨n1,n2⟩:=hlt b o q
   exact(aA.2 b n2).trans (base.keep b o (up3 b o q) (by rw[ab n1];exact n) hb hx)
  ·obtain⟨n1,n2⟩:=hlt b o q
   obtain⟨sl,e⟩:=base.slot b o (up3 b o q) (by rw[ab n1];exact n) hb hx;exact⟨sl,(aA.2 b n2).trans e⟩
  ·obtain⟨n1,n2⟩:=hlt b o q
   exact base.free b o (up3 b o q) (by rw[ab n1];exact n) hx
  ·obtain⟨n1,n2⟩:=hlt b o q
   obtain⟨o',e⟩:=base.there b o (up3 b o q) hx;exact⟨o',(aA.2 b n2).trans e⟩
  ·exact base.tups b xs (by rw[ab (ze q iI)];exact q)
  ·exact base.frzs b o u (by rw[ab (ze q iI)];exact q)
  ·exact base.tbls b ps (by rw[ab (ze q iI)];exact q)
  ·intro b u e
   have pV:=I4.hok b u e;rw[xP,xw] at pV;refine pV.stay (fun c v hc q=>(aA.2 c ?_).trans q) (fun _ q=>q) fun _ _ q=>q;rintro rfl;rcases hc with z|z
   ·rw[<-z,hCn] at e;cases e
   ·rw[hCn] at z;cases z
  ·obtain⟨f0,f1,f3,f4,f5,f6⟩:=f2 b hb
   exact⟨f4,f1,f5,f6⟩
 have Y:∀{H':Hp},(∀b∈fp,H' b=none)->∀b∈fp,bm Xc aa H' b:=fun{H'} hn b hb=>by
  obtain⟨f0,f1,f3,f4,f5,f6⟩:=f2 b hb;refine⟨hn b hb,?_,?_,.inl (by rw[E];exact hb),fun x c e=>?_,fun p hp=>?_⟩
  ·rw[xe]
   show b≠l⁻¹;exact Az (by rw[S];exact AY (U b hb).2)
  ·rw[E]
   intro z;rcases List.mem_cons.mp (I2.stkSub b z) with r|r
   ·exact f1 r
   ·exact f3 r
  ·rw[xe] at e
   rcases G x c e with ⟨q,_⟩|⟨_,q,_⟩
   ·exact f5 x c q
   ·have h1:b<l⁻¹+1:=by rw[S];exact AY (AY (U b hb).2)
    exact Nat.ne_of_gt (AC h1 q)
  ·rw[E] at hp
   exact f6 p hp
 subst E;have jl:∀n s',(∃i L H',Inv (cxD X scope N' (cellsFrom (l⁻¹+1) scope.names (clOf X.env.cells scope.names [])) l⁻¹ l (upd H2 D (.lst [])) fp) aa L H' s'/\tn i s'.heap/\(∀b∈fp,H' b=none)/\W i n L H')->
   codeAny (model X.prog X.w) X.A (.compLoop (.ListComp bJ [⟨tg,iter,aZ,0⟩] scope pos) 0 (.ref it) (.ref D) (compEnvC scope (cellsFrom (l⁻¹+1) scope.names (clOf X.env.cells scope.names [])) l⁻¹ X.env)) (compPost (model X.prog X.w) X.A X.xe use R (.ref D) l⁻¹) s':=by
  intro n0 xH ud;refine codeAny_loop rfl (fun n s'=>∃i L H',Inv (cxD X scope N' (cellsFrom (l⁻¹+1) scope.names (clOf X.env.cells scope.names [])) l⁻¹ l (upd H2 D (.lst [])) fp) aa L H' s'/\tn i s'.heap/\(∀b∈fp,H' b=none)/\W i n L H') (fun n s' hI=>?_) n0 ud;obtain⟨i,L,H',I',aj,o_,w'⟩:=hI;show wpAny _ X.A ((compTurn (.ListComp bJ [⟨tg,iter,aZ,0⟩] scope pos) 0 (.ref it) (.ref D) (compEnvC scope (cellsFrom (l⁻¹+1) scope.names (clOf X.env.cells scope.names [])) l⁻¹ X.env)).onRaise (fun x=>do noteFrame x (compEnvC scope (cellsFrom (l⁻¹+1) scope.names (clOf X.env.cells scope.names [])) l⁻¹ X.env);theTreesLotGoes x)) _ _ s';refine wpAny_noted ?_;rw[compTurn_list];refine Ab (wpAny_standAt (Ab ?_));rcases turn i n L H' w' with ⟨stop,qn⟩|⟨go,step⟩
  ·refine aP (T.done (cxD X scope N' (cellsFrom (l⁻¹+1) scope.names (clOf X.env.cells scope.names [])) l⁻¹ l (upd H2 D (.lst [])) fp) rfl rfl rfl hc i aa s' L H' _ I' (Y o_) aj stop) fun r O ⟨hr,I4⟩=>?_
   subst hr;refine Ac ?_;obtain⟨m,hn,_⟩:=id I4.loc;refine fin D _ H' O _ ⟨⟨m,hn⟩,I3.sz,fun e=>?_,fun x c e=>?_,fun p hp=>Az (Ar (I3.pin p hp).1),I4.free,fun h' aA=>leave I4 aA⟩ qn
   ·obtain⟨m3,rq,_⟩:=I3.loc
    obtain⟨o3,_,_,gG,_⟩:=rq;exact absurd e.symm (Az (Ar gG))
   ·obtain⟨v,hv⟩:=I3.cell x c e
    obtain⟨o3,gG,_⟩:=hv;exact Az (Ar gG)
  ·refine aP (T.item (cxD X scope N' (cellsFrom (l⁻¹+1) scope.names (clOf X.env.cells scope.names [])) l⁻¹ l (upd H2 D (.lst [])) fp) rfl rfl rfl hc i aa s' L H' _ I' (Y o_) aj go) fun r O ⟨u,hr,h4⟩=>?_
   subst hr;refine Ab (aP h4 fun _ s5 ⟨x,H5,I5,r5,y5,st5,fr5⟩=>?_);have l9:=I5.pinned (Y fr5) (T.obj _ _ st5);refine Ab (wpAny_mono (ii _ s5 L H5 x u _ l9 r5 (step x H5 y5)) (fun _ s6 h6=>?_) fun _ _ z=>z.elim);obtain⟨jR,H6,I6,q6⟩:=h6;refine Ab (wpAny_mono (ht' _ s6 jR H6 _ I6 q6) (fun ok s7 h7=>?_) fun _ _ z=>z.elim);obtain⟨H7,I7,q7⟩:=h7;have again:∀{kr:St}{H8:Hp}{s8:Shared}{m':Nat},Inv (cxD X scope N' (cellsFrom (l⁻¹+1) scope.names (clOf X.env.cells scope.names [])) l⁻¹ l (upd H2 D (.lst [])) fp) (aa++md fp s5.heap) kr H8 s8->m'<n->W (i+1) m' kr H8->
     ∃m,m<n/\∃i L H',Inv (cxD X scope N' (cellsFrom (l⁻¹+1) scope.names (clOf X.env.cells scope.names [])) l⁻¹ l (upd H2 D (.lst [])) fp) aa L H' s8/\tn i s8.heap/\(∀b∈fp,H' b=none)/\W i m L H':=fun{kr H8 s8 m'} I8 hm w8=>by
    refine⟨m',hm,i+1,kr,H8,I8.unpinned,T.keep _ _ _ st5 fun b hb o e=>(I8.pin (b,o) (AQ _ (AQ _ (pj hb e)))).1,fun b hb=>?_,w8⟩;obtain⟨o,e,d⟩:=T.obj _ _ st5 b hb;exact(I8.pin (b,o) (AQ _ (AQ _ (pj hb e)))).2.1
   cases ok with
   |false=>
    obtain⟨m',hm,w7⟩:=q7;exact Ac ⟨rfl,again I7 hm w7⟩
   |true=>
    refine Ab (Ab (wpAny_mono (he' _ s7 jR H7 _ I7 q7) (fun v s8 h8=>?_) fun _ _ z=>z.elim));obtain⟨y,H8,I8,r8,ys,m',t7,uo,rZ,w8⟩:=h8;refine Ab (wpAny_mono (ig (X:=cxD X scope N' (cellsFrom (l⁻¹+1) scope.names (clOf X.env.cells scope.names [])) l⁻¹ l (upd H2 D (.lst [])) fp) _ s8 jR H8 (.ref D) [y] (.ref D) [v] (fun _ H9=>H9=upd H8 D (.lst (ys++[y]))) I8 rfl (.cons r8 .nil) ⟨D,ys,y,rfl,rfl,t7,uo,rfl⟩) (fun _ s9 h9=>?_) fun _ _ z=>z.elim);obtain⟨_,H9,I9,_,e9⟩:=h9;subst e9;exact Ac (Ac ⟨rfl,again I9 rZ w8⟩)
 have start:∃i L H',Inv (cxD X scope N' (cellsFrom (l⁻¹+1) scope.names (clOf X.env.cells scope.names [])) l⁻¹ l (upd H2 D (.lst [])) fp) aa L H' {l with heap:=aY}/\tn i ({l with heap:=aY}:Shared).heap/\(∀b∈fp,H' b=none)/\W i m0 L H':=by
  refine⟨0,mT av σ,upd H2 D (.lst []),Ic,T.keep 0 _ _ db fun b hb o e=>F b o (by rw[h3];exact Ad _ e),fun b hb=>?_,w0⟩;rw[ab (U b hb).1];exact(f2 b hb).1
 have es:({M with heap:=aY}:Shared)={l with heap:=aY}:=by rw[e3]
 show codeAny (model X.prog X.w) X.A _ _ ({M with heap:=aY}:Shared);rw[es];refine codeAny_compStart_list (jl m0 _ start) (T.self _ 0 _ _ _ ?_ (jl m0 _ start));exact T.keep 0 _ _ db fun b hb o e=>F b o (by rw[h3];exact Ad _ e)
def wo(b:∀y∈scope.names,y.2≠.cell)(a:List (Str×Addr))(C:Addr)(s₀:Shared)(H₀:Hp)(ex:List Addr):gh X scope N' a C s₀ H₀ ex=cxD X scope N' a C s₀ H₀ ex:=by
 unfold cxD;have:(fun x=>decide (scope.names.lookup x=some NameKind.cell))=fun _=>false:=by
  funext x
  exact decide_eq_false fun e=>b _ (PySem.mem_of_lookup e) rfl
 rw[this]
 rfl
def Hy{use:Option (Value->Sem Unit)}{R:Ω}{d:Pos}(hc:X.calm=true)(hk:scope.kind=.function)(b:∀y∈scope.names,y.2≠.cell)(i:∀y∈scope.names,y.2=.free->scope.names.lookup y.1=some .free)(j:∀y∈scope.names,y.2=.local->scope.names.lookup y.1=some .local)(hfr:∀y∈scope.names,y.2=.free->X.env.kindOf y.1=some .cell\/X.env.kindOf y.1=some .free)(l:mZ X.N N' av scope)(hi:PI X tg iter wi)(o:∀a C s₀ H₀ ex,PG (gh X scope N' a C s₀ H₀ ex) tg g)(p:∀a C s₀ H₀ ex,io (gh X scope N' a C s₀ H₀ ex) aZ tc)(he:∀a C s₀ H₀ ex,PE (gh X scope N' a C s₀ H₀ ex) bJ te)(hs:∀x,foldedSetIterable iter X.env x=pure x){aa:Ψ}{s:Shared}{σ:St}{H:Hp}{Q:VK}(I:Inv X aa σ H s)(h:jz wi av g tc te σ H Q)(fin:∀(D C:Addr)(H':Hp)(c:Shared)(f:Flow),Left X aa σ H' c C->Q (.ref D) H'->compPost (model X.prog X.w) X.A X.xe use R (.ref D) C (.ok f) c):wpAny (model X.prog X.w) X.A (comprehension (.ListComp bJ [⟨tg,iter,aZ,0⟩] scope pos) scope X.env d (newList []) (firstAsync [⟨tg,iter,aZ,0⟩]) (firstIter [⟨tg,iter,aZ,0⟩] X.env) use) R X.xe s:=
 Ci hc hk (fun y hy e=>absurd e (b y hy)) i j hfr l hi (fun a C s₀ H₀ ex=>wo (X:=X) (N':=N') b a C s₀ H₀ ex▸o a C s₀ H₀ ex) (fun a C s₀ H₀ ex=>wo (X:=X) (N':=N') b a C s₀ H₀ ex▸p a C s₀ H₀ ex) (fun a C s₀ H₀ ex=>wo (X:=X) (N':=N') b a C s₀ H₀ ex▸he a C s₀ H₀ ex) hs I h fin
def Hz(hc:X.calm=true)(hk:scope.kind=.function)(b:∀y∈scope.names,y.2≠.cell)(d:∀y∈scope.names,y.2=.free->scope.names.lookup y.1=some .free)(e:∀y∈scope.names,y.2=.local->scope.names.lookup y.1=some .local)(hfr:∀y∈scope.names,y.2=.free->X.env.kindOf y.1=some .cell\/X.env.kindOf y.1=some .free)(i:mZ X.N N' av scope)(hi:PI X tg iter wi)(j:∀a C s₀ H₀ ex,PG (gh X scope N' a C s₀ H₀ ex) tg g)(l:∀a C s₀ H₀ ex,io (gh X scope N' a C s₀ H₀ ex) aZ tc)(he:∀a C s₀ H₀ ex,PE (gh X scope N' a C s₀ H₀ ex) bJ te)(hs:∀x,foldedSetIterable iter X.env x=pure x:=by intro _;rfl):PE X (.ListComp bJ [⟨tg,iter,aZ,0⟩] scope pos) (jz wi av g tc te):=by
 intro aa s σ H Q I h;rw[eval_ListComp];refine Hy (use:=none) hc hk b d e hfr i hi j l he hs I h fun D C H' o f L q=>?_;obtain⟨m,hn⟩:=L.ns;exact⟨m,hn,fun h' c=>⟨.ref D,H',L.back h' c,rfl,q⟩⟩
end
end L2
end
section
namespace Zp
open PySem PySem.Spec PyProof.Rows
section
variable{prog:Program}{w:World}{A:Around}{E:Ω}{s:Shared}
def HA{it t:Addr}{i:Nat}{c:Array Value}{x:Value}{Q:Ω}(b:s.heap.IsTupleIter it t i)(e:s.heap.IsTuple t c)(hx:c[i]?=some x)(f:∀h',h'.IsTupleIter it t (i+1)->A6 it s.heap h'->Q x {s with heap:=h'}):wpAny (model prog w) A (Builtin.SmallTypes.nextOf (.ref it)) Q E s:=by
 obtain⟨o,a,hc,hd⟩:=id b;obtain⟨g,hol,_,h,d⟩:=e;unfold Builtin.SmallTypes.nextOf;refine Ab (wpAny_callSpecial?_slot (name:=Str.ofString "__next__") b.typeIs F.slot_tuple_iterator_next (wpAny_call_entry F.slot_tuple_iterator_next b.typeIs F.entry_tuple_iterator_next ?_ (F.args_tuple_iterator_next_1 _)));show wpAny _ _ (field (.ref it) 0 >>= _) _ _ s;refine Ab (wpAny_field a hd (x:=.ref t) rfl ?_);show wpAny _ _ (if(Value.ref t==Value.none)=true then _ else _) _ _ s;rw[if_neg (show ¬((Value.ref t==Value.none)=true) from At)];show wpAny _ _ (field (.ref it) 1 >>= _) _ _ s;refine Ab (wpAny_field a hd (x:=.int i 0) rfl ?_);show wpAny _ _ (seqItems? (.ref t) >>= _) _ _ s;refine Ab (A0 hol d ?_);simp only[Int.toNat_natCast,hx];refine Ab (wpAny_setField a hd (by simp) (Ac ⟨x,rfl,Ac (f _ ?_ (AO ..))⟩));exact⟨_,Heap.get?_update_self _ a (Obj.isFreed_of_fields (Obj.data_mapFields hd _)),(Obj.cls_mapFields ..).trans hc,by
  rw[Obj.data_mapFields hd];simp[rawInt]⟩
def HB{it t:Addr}{i:Nat}{d:Array Value}{Q:Ω}(hh:A.handled=none)(c:s.heap.IsTupleIter it t i)(g:s.heap.IsTuple t d)(hx:d[i]?=none)(h:∀h' e,Heap.ExtBut it s.heap h'->(∃o,h'.get? e=some o/\o.cls=.type "StopIteration")->E (.ref e) {s with heap:=h'}):wpAny (model prog w) A (Builtin.SmallTypes.nextOf (.ref it)) Q E s:=by
 obtain⟨o,b,hc,hd⟩:=id c;obtain⟨j,hol,_,l,f⟩:=g;unfold Builtin.SmallTypes.nextOf;refine Ab (wpAny_callSpecial?_slot (name:=Str.ofString "__next__") c.typeIs F.slot_tuple_iterator_next (wpAny_call_entry F.slot_tuple_iterator_next c.typeIs F.entry_tuple_iterator_next ?_ (F.args_tuple_iterator_next_1 _)));show wpAny _ _ (field (.ref it) 0 >>= _) _ _ s;refine Ab (wpAny_field b hd (x:=.ref t) rfl ?_);show wpAny _ _ (if(Value.ref t==Value.none)=true then _ else _) _ _ s;rw[if_neg (show ¬((Value.ref t==Value.none)=true) from At)];show wpAny _ _ (field (.ref it) 1 >>= _) _ _ s;refine Ab (wpAny_field b hd (x:=.int i 0) rfl ?_);show wpAny _ _ (seqItems? (.ref t) >>= _) _ _ s;refine Ab (A0 hol f ?_);simp only[Int.toNat_natCast,hx];refine Ab (wpAny_rule (Ab (wpAny_setField b hd (by simp) ?_)));show wpAny _ _ (newExc (.type "StopIteration") [] >>= _) _ _ _;refine Ab ?_;simp only[newExc,newTuple];refine Ab (Bb ?_ (by size_fits));refine Ab (m:=firstArgMember _ _) (wpAny_of_eq (a:=Value.none) (by first|rfl|(simp only[firstArgMember];rfl)) ?_);refine Bb ?_ (by size_fits);simp only[raiseNew];refine Ab (wpAny_handled ?_)
 first|rw[show A.in1.handled=none from hh]|rw[hh]
 refine Ab (Ac (wpAny_throw ?_));exact h _ _ (((AO ..).extBut.push _).push _) ⟨_,Ao _ rfl,rfl⟩
end
def HC{h h':Heap}{a:Addr}{b:Array Value}(x:h.IsTuple a b)(e:∀o,h.get? a=some o->h'.get? a=some o):h'.IsTuple a b:=let ⟨o,ho,r⟩:=x;⟨o,e o ho,r⟩
def Cj{prog:Program}{w:World}{A:Around}(hh:A.handled=none)(it t:Addr)(b:t≠it)(a:Array Value):Draws prog w A it [it,t] a.size (fun i v=>a[i]?=some v) (fun i h=>h.IsTupleIter it t i/\h.IsTuple t a) where
 live:=fun _ _ st=>let ⟨o,ho,_⟩:=st.1;⟨o,ho⟩
 frame:=fun _ _ _ st hk=>⟨st.1.at fun o e=>hk it (by simp) o e,HC st.2 fun o e=>hk t (by simp) o e⟩
 item:=fun i s Q E hi st d=>by
  refine HA st.1 st.2 (x:=a[i]) (by simp[hi]) fun h' f c=>?_;exact d _ h' s.toks (by simp[hi]) ⟨f,st.2.extBut c.extBut b⟩ c
 done:=fun s Q E st g=>HB hh st.1 st.2 (by simp) g
structure Apart(z TI TO i1 i2:Addr)(bT bR:List Addr):Prop where
 z1:z∉bT
 z2:z∉bR
 o1:TO∉bT
 o2:TO∉bR
 m1:i1∈bT
 m2:i2∈bR
 x12:i1∉bR
 x21:i2∉bT
 TIz:TI≠z
 TOz:TO≠z
 TITO:TI≠TO
 TIi1:TI≠i1
 TIi2:TI≠i2
section
variable{prog:Program}{w:World}{A:Around}{E:Ω}{s:Shared}{z TI TO i1 i2:Addr}{bT bR:List Addr}{n1 n2 i:Nat}{P1 P2:Nat->Value->Prop}{S1 S2:Nat->Heap->Prop}{a b:Value}
def HE{Q:Ω}(D1:Draws prog w A i1 bT n1 P1 S1)(D2:Draws prog w A i2 bR n2 P2 S2)(D:Apart z TI TO i1 i2 bT bR)(hz:IsZip s.heap z TI TO .none)(c6:IsPair s.heap TI (.ref i1) (.ref i2))(cU:IsPair s.heap TO a b)(h1:S1 i s.heap)(h2:S2 i s.heap)(l1:i<n1)(l2:i<n2)(hQ:∀x y h' tk,P1 i x->P2 i y->IsZip h' z TI TO (rawInt s⁻¹)->IsPair h' TO x y->S1 (i+1) h'->S2 (i+1) h'->IsPair h' s⁻¹ x y->h'.objs.size=s⁻¹+1->
   (∀c o,c≠z->c≠TO->c≠i1->c≠i2->s.heap.get? c=some o->h'.get? c=some o)->Q (.ref s⁻¹) {s with heap:=h',toks:=tk}):
  wpAny (model prog w) A (Builtin.«zip.__next__» ⟨[.ref z],[]⟩) (fun fin s'=>∃v,fin=.done (.ret v)/\Q v s') E s:=by
 have g:∀c∈bT,c≠z:=fun c hc e=>D.z1 (e▸hc);have O:∀c∈bR,c≠z:=fun c hc e=>D.z2 (e▸hc);have P:∀c∈bT,c≠TO:=fun c hc e=>D.o1 (e▸hc);have S:∀c∈bR,c≠TO:=fun c hc e=>D.o2 (e▸hc);have lf:∀c∈bR,c≠i1:=fun c hc e=>D.x12 (e▸hc);have rh:∀c∈bT,c≠i2:=fun c hc e=>D.x21 (e▸hc);have kH:i1≠z:=g _ D.m1;have lS:i2≠z:=O _ D.m2;have gR:TO≠i1:=(P _ D.m1).symm;have ow:TO≠i2:=(S _ D.m2).symm;show wpAny _ _ (field (.ref z) 2 >>= _) _ _ _;refine Ab (wpAny_field hz rfl (x:=.bool false) rfl ?_);show wpAny _ _ (field (.ref z) 3 >>= _) _ _ _;refine Ab (wpAny_field hz rfl (x:=.ref TI) rfl ?_);refine Ab (A0 c6 rfl ?_);show wpAny _ _ (Builtin.SmallTypes.ownedTupleIsFree (.ref z) >>= _) _ _ _;refine Ab ?_;unfold Builtin.SmallTypes.ownedTupleIsFree;refine Ab (wpAny_field hz rfl (x:=.none) rfl (Ac ?_));simp only[if_true];refine Ab (wpAny_rule ?_);refine Ab (wpAny_field hz rfl (x:=.ref TO) rfl ?_);refine Ab (wpAny_setField_rec hz (by simp) fun g1 d h=>?_);replace d:IsZip g1 z TI TO .ellipsis:=d;refine Ab ?_;simp only[List.zipIdx_cons,List.zipIdx_nil,List.forIn_cons,List.forIn_nil];refine Ab (Ab (wpAny_onRaise ?_));show wpAny _ _ (Builtin.SmallTypes.nextOf (.ref i1) >>= _) _ _ _;refine Ab (D1.item i _ _ _ l1 (D1.frame _ _ _ h1 fun c hc o e=>h.extBut c o (g c hc) e) fun x g2 jX px s2 j=>Ac ?_);have T:IsPair g2 TO a b:=j.extBut _ _ gR (h.extBut _ _ D.TOz cU);refine Ab (A0 T rfl ?_);refine Ab (wpAny_updateSeq_pair T fun g3 H l=>?_);replace H:IsPair g3 TO x b:=H;refine Ab (wpAny_letGo (Ac ?_));refine Ab (Ab (wpAny_onRaise ?_));show wpAny _ _ (Builtin.SmallTypes.nextOf (.ref i2) >>= _) _ _ _;refine Ab (D2.item i _ _ _ l2 (D2.frame _ _ _ h2 fun c hc o e=>l.extBut c o (S c hc) (j.extBut c o (lf c hc) (h.extBut c o (O c hc) e))) fun y g4 xk py s4 p=>Ac ?_);have U:IsPair g4 TO x b:=p.extBut _ _ ow H;refine Ab (A0 U rfl ?_);refine Ab (wpAny_updateSeq_pair U fun g5 u q=>?_);replace u:IsPair g5 TO x y:=u;refine Ab (wpAny_letGo (Ac (Ac ?_)));refine Ab (A0 u rfl ?_);refine Ab (wpAny_newTuple ?_);have hsz:g5.objs.size=s⁻¹:=by rw[q.1,p.1,l.1,j.1,h.1]
 have W:IsZip g5 z TI TO .ellipsis:=q.extBut _ _ D.TOz.symm (p.extBut _ _ lS.symm (l.extBut _ _ D.TOz.symm (j.extBut _ _ kH.symm d)));have kk:∀c o,c≠z->c≠TO->c≠i1->c≠i2->s.heap.get? c=some o->g5.get? c=some o:=fun c o f C I J e=>
  q.extBut _ _ C (p.extBut _ _ J (l.extBut _ _ C (j.extBut _ _ I (h.extBut _ _ f e))))
 have d1:S1 (i+1) g5:=D1.frame _ _ _ s2 fun c hc o e=>q.extBut c o (P c hc) (p.extBut c o (rh c hc) (l.extBut c o (P c hc) e));have d2:S2 (i+1) g5:=D2.frame _ _ _ s4 fun c hc o e=>q.extBut c o (S c hc) e;have X:z<g5.objs.size:=Ar W;have e1:∀c∈bT,∀o,g5.get? c=some o->c<g5.objs.size:=fun c _ o e=>Ar e;show wpAny _ _ (Builtin.SmallTypes.ownedTupleHandOut (.ref z) (.ref g5.objs.size) >>= _) _ _ _;refine Ab ?_;unfold Builtin.SmallTypes.ownedTupleHandOut;have z6:IsZip (g5.push {cls:=.type "tuple",data:=.seq #[x,y]}) z TI TO .ellipsis:=Ad _ W;refine Ab (wpAny_setField_rec z6 (by simp) fun g7 L M=>?_);replace L:IsZip g7 z TI TO (rawInt g5.objs.size):=L;refine wpAny_setField_rec L (by simp) fun r F N=>?_;replace F:IsZip r z TI TO (rawInt g5.objs.size):=F;have G:∀c o,c≠z->g5.get? c=some o->r.get? c=some o:=fun c o f e=>N.extBut _ _ f (M.extBut _ _ f (Ad _ e));have T8:IsPair r g5.objs.size x y:=N.extBut _ _ (Nat.ne_of_gt X) (M.extBut _ _ (Nat.ne_of_gt X) (Ao _ rfl));have Y:r.objs.size=g5.objs.size+1:=by rw[N.1,M.1,Heap.size_push]
 rw[hsz] at F T8 Y;refine Ac ⟨_,rfl,?_⟩;show Q (.ref g5.objs.size) _;rw[hsz];exact hQ x y r _ px py F (G _ _ D.TOz u) (D1.frame _ _ _ d1 fun c hc o e=>G c o (g c hc) e) (D2.frame _ _ _ d2 fun c hc o e=>G c o (O c hc) e) T8 Y fun c o f C I J e=>G c o f (kk c o f C I J e)
def HF{Q:Fin->Shared->Prop}(D1:Draws prog w A i1 bT n1 P1 S1)(D2:Draws prog w A i2 bR n2 P2 S2)(D:Apart z TI TO i1 i2 bT bR)(hz:IsZip s.heap z TI TO .none)(Y:IsPair s.heap TI (.ref i1) (.ref i2))(cU:IsPair s.heap TO a b)(h1:S1 i s.heap)(h2:S2 i s.heap)(O:i=n1\/(i<n1/\i=n2))(L:∀h' e tk,(∀c o,c≠z->c≠TO->c≠i1->c≠i2->s.heap.get? c=some o->h'.get? c=some o)->(∃o,h'.get? e=some o/\o.cls=.type "StopIteration")->E (.ref e) {s with heap:=h',toks:=tk}):wpAny (model prog w) A (Builtin.«zip.__next__» ⟨[.ref z],[]⟩) Q E s:=by
 have q:∀c∈bT,c≠z:=fun c hc e=>D.z1 (e▸hc);have G:∀c∈bR,c≠z:=fun c hc e=>D.z2 (e▸hc);have S:∀c∈bT,c≠TO:=fun c hc e=>D.o1 (e▸hc);have T:∀c∈bR,c≠TO:=fun c hc e=>D.o2 (e▸hc);have U:∀c∈bR,c≠i1:=fun c hc e=>D.x12 (e▸hc);have H:i1≠z:=q _ D.m1;have W:i2≠z:=G _ D.m2;have X:TO≠i1:=(S _ D.m1).symm;show wpAny _ _ (field (.ref z) 2 >>= _) _ _ _;refine Ab (wpAny_field hz rfl (x:=.bool false) rfl ?_);show wpAny _ _ (field (.ref z) 3 >>= _) _ _ _;refine Ab (wpAny_field hz rfl (x:=.ref TI) rfl ?_);refine Ab (A0 Y rfl ?_);show wpAny _ _ (Builtin.SmallTypes.ownedTupleIsFree (.ref z) >>= _) _ _ _;refine Ab ?_;unfold Builtin.SmallTypes.ownedTupleIsFree;refine Ab (wpAny_field hz rfl (x:=.none) rfl (Ac ?_));simp only[if_true];refine Ab (wpAny_rule ?_);refine Ab (wpAny_field hz rfl (x:=.ref TO) rfl ?_);refine Ab (wpAny_setField_rec hz (by simp) fun g1 d j=>?_);replace d:IsZip g1 z TI TO .ellipsis:=d;refine Ab ?_;simp only[List.zipIdx_cons,List.zipIdx_nil,List.forIn_cons,List.forIn_nil];refine Ab (Ab (wpAny_onRaise ?_));have f1:=D1.frame _ _ _ h1 fun c hc o e=>j.extBut c o (q c hc) e;rcases O with u|⟨P,u⟩
 ·show wpAny _ _ (Builtin.SmallTypes.nextOf (.ref i1) >>= _) _ _ _
  refine Ab (D1.done _ _ _ (u▸f1) fun g2 e f he=>?_);obtain⟨v,g,p⟩:=he;have z2:IsZip g2 z TI TO .ellipsis:=f _ _ H.symm d;have y:e≠z:=fun x=>by subst x;rw[z2] at g;cases g;simp at p
  refine wpAny_setField_rec z2 (by simp) fun g3 _ h=>L g3 e _ (fun c o l _ r _ x=>h.extBut _ _ l (f _ _ r (j.extBut _ _ l x))) ⟨v,h.extBut _ _ y g,p⟩
 ·show wpAny _ _ (Builtin.SmallTypes.nextOf (.ref i1) >>= _) _ _ _
  refine Ab (D1.item i _ _ _ P f1 fun x g2 jX px s2 f=>Ac ?_);have I:IsPair g2 TO a b:=f.extBut _ _ X (j.extBut _ _ D.TOz cU);refine Ab (A0 I rfl ?_);refine Ab (wpAny_updateSeq_pair I fun g3 t3 h=>?_);refine Ab (wpAny_letGo (Ac ?_));refine Ab (Ab (wpAny_onRaise ?_));have f2:S2 i g3:=D2.frame _ _ _ h2 fun c hc o e=>h.extBut c o (T c hc) (f.extBut c o (U c hc) (j.extBut c o (G c hc) e));show wpAny _ _ (Builtin.SmallTypes.nextOf (.ref i2) >>= _) _ _ _;refine Ab (D2.done _ _ _ (u▸f2) fun g4 e C he=>?_);obtain⟨v,g,p⟩:=he;have J:IsZip g4 z TI TO .ellipsis:=C _ _ W.symm (h.extBut _ _ D.TOz.symm (f.extBut _ _ H.symm d));have y:e≠z:=fun x=>by subst x;rw[J] at g;cases g;simp at p
  refine wpAny_setField_rec J (by simp) fun g5 _ F=>L g5 e _ (fun c o l M r N x=>F.extBut _ _ l (C _ _ N (h.extBut _ _ M (f.extBut _ _ r (j.extBut _ _ l x))))) ⟨v,F.extBut _ _ y g,p⟩
end
def HG{prog:Program}{w:World}{A:Around}{z TI TO i1 i2:Addr}{bT bR:List Addr}{n1 n2:Nat}{P1 P2:Nat->Value->Prop}{S1 S2:Nat->Heap->Prop}(D1:Draws prog w A.in1 i1 bT n1 P1 S1)(D2:Draws prog w A.in1 i2 bR n2 P2 S2)(D:Apart z TI TO i1 i2 bT bR):WalksT prog w A z (z::TI::TO::(bT++bR)) [z,TO,i1,i2] (min n1 n2) (fun i vals=>∃x y,P1 i x/\P2 i y/\vals=#[x,y])
   (fun i h=>IsZip h z TI TO .none/\IsPair h TI (.ref i1) (.ref i2)/\(∃a b,IsPair h TO a b)/\S1 i h/\S2 i h)
   (fun i T h=>IsZip h z TI TO (rawInt T)/\IsPair h TI (.ref i1) (.ref i2)/\(∃a b,IsPair h TO a b)/\S1 (i+1) h/\S2 (i+1) h/\T≠z/\T≠TO/\T≠i1/\T≠i2) where
 sub:=fun c hc=>by
  simp at hc ⊢;rcases hc with rfl|rfl|rfl|rfl
  ·simp
  ·simp
  ·exact .inr (.inr (.inr (.inl D.m1)))
  ·exact .inr (.inr (.inr (.inr D.m2)))
 frame:=fun i h h' d hk=>by
  obtain⟨hz,g,⟨a,b,j⟩,h1,h2⟩:=d;exact⟨hk z (by simp) _ hz,hk TI (by simp) _ g,⟨a,b,hk TO (by simp) _ j⟩,D1.frame _ _ _ h1 fun c hc o e=>hk c (by simp[hc]) o e,D2.frame _ _ _ h2 fun c hc o e=>hk c (by simp[hc]) o e⟩
 item:=fun i s Q E hi d l=>by
  obtain⟨hz,g,⟨a,b,j⟩,h1,h2⟩:=d;have f:s.TypeIs (.ref z) "zip":=⟨_,hz,rfl⟩;unfold pyNext;refine Ab (wpAny_attempt (wpAny_callSpecial?_slot (name:=Str.ofString "__next__") f F.slot_zip_next (wpAny_call_entry F.slot_zip_next f F.entry_zip_next
   (HE D1 D2 D hz g j h1 h2 (AC hi (Nat.min_le_left ..)) (AC hi (Nat.min_le_right ..)) fun x y h' tk u v C G H I J X hk=>Ac ?_) (F.args_zip_next_1 _))))
  have lt:∀{c o},s.heap.get? c=some o->s⁻¹≠c:=fun e=>Nat.ne_of_gt (Ar e);obtain⟨Y,L⟩:=D1.live _ _ h1;obtain⟨o2,M⟩:=D2.live _ _ h2;exact l s⁻¹ #[x,y] h' tk ⟨_,_,u,v,rfl⟩ (Ag _) ⟨_,J,rfl,_,rfl⟩ ⟨C,hk _ _ D.TIz D.TITO D.TIi1 D.TIi2 g,⟨_,_,G⟩,H,I,lt hz,lt j,lt L,lt M⟩
   fun c o hc e=>hk c o (fun x=>hc (by simp[x])) (fun x=>hc (by simp[x])) (fun x=>hc (by simp[x])) (fun x=>hc (by simp[x])) e
 go:=fun cf k pos i T s Q E hm l=>by
  obtain⟨hz,g,⟨a,b,j⟩,h1,h2,_⟩:=hm;refine wpAny_letOwnedTupleGo_zip hz fun h' r p=>l h' ⟨r,p.extBut _ _ D.TIz g,⟨a,b,p.extBut _ _ D.TOz j⟩,
   D1.frame _ _ _ h1 fun c hc o e=>p.extBut c o (fun q=>D.z1 (q▸hc)) e,D2.frame _ _ _ h2 fun c hc o e=>p.extBut c o (fun q=>D.z2 (q▸hc)) e⟩ fun c o hc e=>p.extBut _ _ (fun x=>hc (by simp[x])) e
 apart:=fun i T h hm f=>by
  obtain⟨_,_,_,_,_,N,O,P,S⟩:=hm;simp at f;rcases f with rfl|rfl|rfl|rfl
  ·exact N rfl
  ·exact O rfl
  ·exact P rfl
  ·exact S rfl
 done:=fun s Q E d l=>by
  obtain⟨hz,g,⟨a,b,j⟩,h1,h2⟩:=d;have f:s.TypeIs (.ref z) "zip":=⟨_,hz,rfl⟩;have W:min n1 n2=n1\/(min n1 n2<n1/\min n1 n2=n2):=ω
  unfold pyNext;refine Ab (wpAny_attempt (wpAny_callSpecial?_slot (name:=Str.ofString "__next__") f F.slot_zip_next
   (wpAny_call_entry F.slot_zip_next f F.entry_zip_next (HF D1 D2 D hz g j h1 h2 W fun h' e tk hk he=>?_) (F.args_zip_next_1 _))))
  obtain⟨o,U,hc⟩:=he;refine Ab (wpAny_isInstance (T:="StopIteration") (b:=true) ⟨o,U,hc⟩ isSubtype_stop ?_);exact Ac (l _ tk fun c o hc e=>hk c o (fun x=>hc (by simp[x])) (fun x=>hc (by simp[x])) (fun x=>hc (by simp[x])) (fun x=>hc (by simp[x])) e)
 self:=fun i s Q E d l=>wpAny_pyIter_zip d.1 l
end Zp
end
section
namespace L2
open PySem PySem.Spec PyProof.Rows
section
variable{X:Cx}{aa:Ψ}{σ:St}{H:Hp}{s:Shared}{h':Heap}
def Inv.turneds{t':Nat}{ch:List Addr}(I:Inv X aa σ H s)(hf:∀b∈ch,bm X aa H b)(k:∀b o,b∉ch->s.heap.get? b=some o->h'.get? b=some o):Inv X aa σ H {s with heap:=h',toks:=t'}:=by
 have a:∀b u,H b=some u->b∉ch:=fun b u e z=>by have:=(hf b z).1;rw[this] at e;cases e
 refine I.step (g':=s.gens) (d':=s.drawn) (ch:=ch) (fun b hb=>?_) (fun b o _ _ hc e _=>k b o hc e) (fun b o _ _ hc e _=>⟨o.slots,k b o hc e⟩) (fun _ _ _ _ n=>n)
  (fun b o hc e=>⟨o,k b o hc e⟩) (fun _ _ e=>e) (fun _ _ _ e=>e) (fun b ps e=>⟨#[],by rw[e];simp⟩) (fun m hm=>?_) (fun b u e=>?_) I.bare
 ·obtain⟨h,f1,f2,d,f,f5⟩:=hf b hb
  exact⟨d,f1,f,f5⟩
 ·obtain⟨o,es,ep,g,r⟩:=hm
  exact⟨o,es,ep,k _ o (fun z=>(hf _ z).2.1 rfl) g,r⟩
 ·refine(I.hok b u e).stay (fun c v hc q=>k c v ?_ q) (fun _ q=>q) fun _ _ q=>q
  rcases hc with z|z
  ·rw[z];exact a b u e
  ·exact a c _ z
def Inv.adopt{a:Addr}{o:HO}(I:Inv X aa σ H s)(hn:H a=none)(h1:X.s₀⁻¹<=a)(h2:a≠X.env.locals)(h3:∀x c,X.env.cells.lookup x=some c->c≠a)(d:∀p∈X.pn++aa,p.1≠a)(new:zJ X.prog X.w (upd H a o) s.heap a o):Inv X aa σ (upd H a o) s:=by
 refine I.step (h':=s.heap) (g':=s.gens) (t':=s.toks) (d':=s.drawn) (ch:=[a]) (fun b hb=>?_) (fun b o _ _ hc e _=>e) (fun b o _ _ hc e _=>⟨o.slots,e⟩) (fun b o hc e n=>?_)
  (fun b o hc e=>⟨o,e⟩) (fun b xs e=>?_) (fun b o u e=>?_) (fun b ps e=>⟨#[],?_⟩) (fun m hm=>hm) (fun b u e=>?_) I.bare
 ·have e:b=a:=by simpa using hb
  subst e;exact⟨.inr h1,h2,h3,d⟩
 ·rw[ab (fun z=>hc (by simp[z]))];exact n
 ·rw[ab (ze e hn)];exact e
 ·rw[ab (ze e hn)];exact e
 ·rw[ab (ze e hn),e];simp
 ·by_cases hb:b=a
  ·subst hb;rw[za] at e;cases e;exact new
  ·rw[ab hb] at e
   exact(I.hok b u e).stay (fun _ _ _ q=>q) (fun c q=>by rw[ab (ze q hn)];exact q) fun c xs q=>by rw[ab (ze q hn)];exact q
def Inv.grown{t':Nat}{ch:List Addr}{a:Addr}{o:HO}(I:Inv X aa σ H s)(hf:∀b∈ch,bm X aa H b)(k:∀b o,b∉ch->s.heap.get? b=some o->h'.get? b=some o)(hp:s⁻¹<=a)(new:zJ X.prog X.w (upd H a o) h' a o):Inv X aa σ (upd H a o) {s with heap:=h',toks:=t'}:=by
 have I1:Inv X aa σ H {s with heap:=h',toks:=t'}:=I.turneds hf k;obtain⟨c,f1,f2,e,d,f5⟩:=I.fpOk hp (I.hok.fresh hp);exact I1.adopt c (AD I.sz hp) f1 d f5 new
def HH{b t:Addr}{o:Obj}(I:Inv X aa σ H s)(f:bm X aa H b)(hk:X.K.lookup t=some o):t≠b:=by
 intro z;subst z;have e:=I.ok.mod.kin t o hk;rcases f.2.2.2.1 with q|q
 ·exact I.ok.noex t o e q
 ·exact absurd (AC (Ar (I.ok.bs t o e).1) q) (Nat.lt_irrefl _)
def Ck{b t:Addr}{xs:List V}(I:Inv X aa σ H s)(f:bm X aa H b)(h:SqT X.K H t xs):t≠b:=by
 rcases h with (h|⟨o,h⟩)|⟨o,_,_,hk,_⟩
 ·exact ze h f.1
 ·exact ze h f.1
 ·exact HH I f hk
end
def HI{P:Program}{w:World}{K:Af}{J:It}{fp wr:List Addr}{it:Addr}{a:Nat->Heap->Prop}{cf:List Expr}{k:Nat}{pos:Pos}(mem:it∈fp)(obj:∀i h,a i h->∀b∈fp,∃o,h.get? b=some o/\∀v,o.data≠.cell v)(keep:∀i h h',a i h->(∀b∈fp,∀o,h.get? b=some o->h'.get? b=some o)->a i h')(hw:∀b∈wr,b∈fp)(W:∀(X:Cx),X.prog=P->X.w=w->X.K=K->X.calm=true->∀(i:Nat)(aa:Ψ)(s:Shared)(σ:St)(H:Hp),Inv X aa σ H s->(∀b∈fp,bm X aa H b)->a i s.heap->(J.go i H\/J.stop i H)->
   ∃(y:List Addr)(n:Nat)(u:Nat->Array Value->Prop)(S:Nat->Heap->Prop)(z:Nat->Addr->Heap->Prop),WalksT P w X.A it y wr n u S z/\S i s.heap/\(∀j h,S j h->a j h)/\
    (J.go i H->i<n/\∀vals,u i vals->∃xs:List V,Vals xs vals.toList/\xs.length<=sizeLine/\∀p,H p=none->J.yld i H (.ref p) (upd H p (.tup xs)))/\(J.stop i H->i=n))
  (self:∀(A:Around)(i:Nat)(s:Shared)(Q:Ω)(E:Ω),a i s.heap->Q (.ref it) s->wpAny (model P w) A (pyIter (.ref it)) Q E s) :
  Turn P w K (.Tuple cf k pos) J fp it a where
 mem:=mem
 obj:=obj
 keep:=keep
 item:=by
  intro X c d f hc i aa s σ H E I hf st l;obtain⟨y,n,u,S,z,WT,C,D,g,_⟩:=W X c d f hc i aa s σ H I hf st (.inl l);obtain⟨hi,N⟩:=g l;subst c d f;refine WT.item i s _ _ hi C fun T vals h' tk hp x F hm hk=>⟨.ref T,rfl,?_⟩;obtain⟨xs,O,hz,hy⟩:=N vals hp;have I1:Inv X aa σ (upd H T (.tup xs)) {s with heap:=h',toks:=tk}:=I.grown (ch:=wr) (fun b hb=>hf b (hw b hb)) hk x (show zJ X.prog X.w _ h' T (.tup xs) from⟨hz,vals.toList,O,by have q:IsTup h' T vals:=F;simpa using q⟩);have Y:∀b∈fp,b≠T:=fun b hb=>by
   obtain⟨o,e,_⟩:=obj i _ st b hb;exact Az (AC (Ar e) x)
  have r:∀b∈fp,bm X aa (upd H T (.tup xs)) b:=fun b hb=>by
   obtain⟨U,fr⟩:=hf b hb;exact⟨by rw[ab (Y b hb)];exact U,fr⟩
  refine WT.go cf k pos i T _ _ _ hm fun G L M=>?_;have I2:Inv X aa σ (upd H T (.tup xs)) {s with heap:=G,toks:=tk}:=I1.turneds (s:={s with heap:=h',toks:=tk}) (t':=tk) (ch:=wr) (fun b hb=>r b (hw b hb)) M;exact⟨.ref T,_,I2,rfl,hy T (I.hok.fresh x),D _ _ L,fun b hb=>(r b hb).1⟩
 done:=by
  intro X c d f hc i aa s σ H E I hf st l;obtain⟨y,n,u,S,z,WT,C,D,_,g⟩:=W X c d f hc i aa s σ H I hf st (.inr l);subst c d f;have e:=g l;subst e;exact WT.done s _ _ C fun h' tk hk=>⟨rfl,I.turneds (ch:=wr) (fun b hb=>hf b (hw b hb)) hk⟩
 self:=self
def wz(K:Af)(a b:Addr):It:=
 ⟨fun i H=>∃xs ys,SqT K H a xs/\SqT K H b ys/\i<min xs.length ys.length,
  fun i H v H'=>∃p x y,v=.ref p/\H p=none/\H'=upd H p (.tup [x,y])/\(∀xs,SqT K H a xs->xs[i]?=some x)/\∀ys,SqT K H b ys->ys[i]?=some y,
  fun i H=>∃xs ys,SqT K H a xs/\SqT K H b ys/\i=min xs.length ys.length⟩
def gj:(2:Nat)<=sizeLine:=by rw[sizeLine_eq];decide
def HJ{P:Program}{w:World}{K:Af}{cf:List Expr}{k:Nat}{pos:Pos}(N O z TI TO i1 i2:Addr)(hd:TI≠z/\TO≠z/\TI≠TO/\TI≠i1/\TI≠i2/\z≠i1/\z≠i2/\TO≠i1/\TO≠i2/\i1≠i2):Turn P w K (.Tuple cf k pos) (wz K N O) [z,TI,TO,i1,i2] z (fun i h=>IsZip h z TI TO .none/\IsPair h TI (.ref i1) (.ref i2)/\(∃a b,IsPair h TO a b)/\h.IsTupleIter i1 N i/\h.IsTupleIter i2 O i):=by
 obtain⟨d1,d2,d3,d4,d5,d6,d7,d8,d9,kt⟩:=hd;refine HI (wr:=[z,TO,i1,i2]) (by simp) (fun i h st b hb=>?_) (fun i h h' st c=>?_) (fun b hb=>?_) (fun X hP hw hK hc i aa s σ H I hf st vO=>?_) fun A i s Q E st h=>wpAny_pyIter_zip st.1 h
 ·obtain⟨d,l,⟨a,b',q⟩,⟨o4,r,_,S⟩,⟨o5,C,_,e5⟩⟩:=st
  simp at hb;rcases hb with rfl|rfl|rfl|rfl|rfl
  ·exact⟨_,d,fun v z=>by cases z⟩
  ·exact⟨_,l,fun v z=>by cases z⟩
  ·exact⟨_,q,fun v z=>by cases z⟩
  ·exact⟨_,r,fun v z=>by rw[S] at z;cases z⟩
  ·exact⟨_,C,fun v z=>by rw[e5] at z;cases z⟩
 ·obtain⟨d,l,⟨a,b',q⟩,r,C⟩:=st
  exact⟨c z (by simp) _ d,c TI (by simp) _ l,⟨a,b',c TO (by simp) _ q⟩,r.at fun o e=>c i1 (by simp) o e,C.at fun o e=>c i2 (by simp) o e⟩
 ·simp at hb ⊢
  rcases hb with rfl|rfl|rfl|rfl<;>simp
 ·subst hP hw hK
  have hd:∃xs ys,SqT X.K H N xs/\SqT X.K H O ys:=by
   rcases vO with ⟨xs,ys,a,b,_⟩|⟨xs,ys,a,b,_⟩
   ·exact⟨xs,ys,a,b⟩
   ·exact⟨xs,ys,a,b⟩
  obtain⟨xs,ys,D,F⟩:=hd;obtain⟨us,r1,p1,_⟩:=I.tuple D;obtain⟨ws,r2,p2,_⟩:=I.tuple F;have L:=r1.length;have M:=r2.length;have hh:=I.ok.hd hc;obtain⟨d,l,q,r,C⟩:=st;have f:=fun b hb=>Ck I (hf b hb) D;have T:=fun b hb=>Ck I (hf b hb) F;have AP:Zp.Apart z TI TO i1 i2 [i1,N] [i2,O]:=by
   refine⟨?_,?_,?_,?_,by simp,by simp,?_,?_,d1,d2,d3,d4,d5⟩
   ·simp;exact⟨d6,(f z (by simp)).symm⟩
   ·simp;exact⟨d7,(T z (by simp)).symm⟩
   ·simp;exact⟨d8,(f TO (by simp)).symm⟩
   ·simp;exact⟨d9,(T TO (by simp)).symm⟩
   ·simp;exact⟨kt,(T i1 (by simp)).symm⟩
   ·simp;exact⟨kt.symm,(f i2 (by simp)).symm⟩
  have WZ:=Zp.HG (prog:=X.prog) (w:=X.w) (A:=X.A) (Zp.Cj (A:=X.A.in1) hh i1 N (f i1 (by simp)) us.toArray) (Zp.Cj (A:=X.A.in1) hh i2 O (T i2 (by simp)) ws.toArray) AP;refine⟨_,_,_,_,_,WZ,⟨d,l,q,⟨r,p1⟩,⟨C,p2⟩⟩,fun j h st=>⟨st.1,st.2.1,st.2.2.1,st.2.2.2.1.1,st.2.2.2.2.1⟩,fun g=>?_,fun g=>?_⟩
  ·obtain⟨G,J,U,W,hi⟩:=g
   have e1:=I.tuple_inj U D;have e2:=I.tuple_inj W F;subst e1 e2;refine⟨by simpa[<-L,<-M] using hi,fun vals hp=>?_⟩;obtain⟨x,y,px,py,rfl⟩:=hp;have we:us[i]?=some x:=by simpa using px
   have Y:ws[i]?=some y:=by simpa using py
   have lx:i<G.length:=ω
   have ly:i<J.length:=ω
   have gx:G[i]?=some G[i]:=by simp[lx]
   have gy:J[i]?=some J[i]:=by simp[ly]
   obtain⟨u,e3,ru⟩:=r1.get gx;obtain⟨u',S,hJ⟩:=r2.get gy;rw[we] at e3;cases e3;rw[Y] at S;cases S;refine⟨[G[i],J[i]],.cons ru (.cons hJ .nil),gj,fun p hp=>⟨p,_,_,rfl,hp,rfl,fun zs hz=>?_,fun zs hz=>?_⟩⟩
   ·rw[I.tuple_inj hz D];exact gx
   ·rw[I.tuple_inj hz F];exact gy
  ·obtain⟨G,J,U,W,hi⟩:=g
   have e1:=I.tuple_inj U D;have e2:=I.tuple_inj W F;subst e1 e2
   simpa[<-L,<-M] using hi
def HK(b e:Addr)(xs ys:Array Value):Meets (Builtin.«zip.__new__» ⟨[.type "zip",.ref b,.ref e],[]⟩) (fun _ R s=>s.heap.IsTuple b xs/\s.heap.IsTuple e ys/\
   ∀h',IsZip h' (s⁻¹+4) (s⁻¹+2) (s⁻¹+3) .none->IsPair h' (s⁻¹+2) (.ref s⁻¹) (.ref (s⁻¹+1))->
   IsPair h' (s⁻¹+3) .none .none->h'.IsTupleIter s⁻¹ b 0->h'.IsTupleIter (s⁻¹+1) e 0->
   (∀c o,s.heap.get? c=some o->h'.get? c=some o)->R (.ok (.ret (.ref (s⁻¹+4)))) {s with heap:=h'}):=
 .of_wp fun prog w A R s h=>by
  obtain⟨hp,g,d,tk,os⟩:=s;obtain⟨f,i,h⟩:=h;have p:=sub_zip;have j:Heap.IsTuple (Shared.heap ⟨hp,g,d,tk,os⟩) b xs:=f;have l:Heap.IsTuple (Shared.heap ⟨hp.push {cls:=.type "tuple_iterator",data:=.fields #[.ref b,.int 0 0]},g,d,tk,os⟩) e ys:=Heap.IsTuple.push i _
  wp_walk using wpAny_pyIter_tuple j,wpAny_pyIter_tuple l
  refine⟨_,rfl,?_⟩;dsimp only at h ⊢;have a:∀(h:Heap)(o:Obj),(h.push o).objs.size=h.objs.size+1:=fun h o=>Heap.size_push ..;simp only[a,Nat.add_assoc,Nat.reduceAdd];refine h _ ?_ ?_ ?_ ?_ ?_ fun c o x=>Ad _ (Ad _ (Ad _ (Ad _ (Ad _ x))))
  ·exact Heap.get?_push_at (by simp only[a]) rfl
  ·exact Ad _ (Ad _ (Heap.get?_push_at (by simp only[a]) rfl))
  ·exact Ad _ (Heap.get?_push_at (by simp only[a]) rfl)
  ·exact⟨_,Ad _ (Ad _ (Ad _ (Ad _ (Ao _ rfl)))),rfl,rfl⟩
  ·exact⟨_,Ad _ (Ad _ (Ad _ (Heap.get?_push_at (by simp only[a]) rfl))),rfl,rfl⟩
section
variable{X:Cx}{cf:List Expr}{k:Nat}{eE:Pos}
def wK(K:Af)(ta:TA):TI:=fun σ H R=>ta σ H fun vs H1=>∃a b,vs=[.ref a,.ref b]/\(∃xs,SqT K H1 a xs)/\(∃ys,SqT K H1 b ys)/\R (wz K a b) H1
def HL{a b:Expr}{ta:TA}{p pos:Pos}(L:Gl X "zip")(hm:X.mg "zip"=none)(M:A5 "zip"=some (.type "zip"))(N:PA X [a,b] ta)(hs:starEach [a,b] X.env=[(false,eval a X.env),(false,eval b X.env)]:=by rfl)(l:starEach [b] X.env=[(false,eval b X.env)]:=by rfl):PI X (.Tuple cf k eE) (.Call (.Name "zip" p) [a,b] [] pos) (wK X.K ta):=by
 intro aa s σ H R I h;refine Call_ (jg I L hm M (PyProof.Rows.callWith_type1 (aP (N pos aa s σ H _ I h) fun us c ⟨vs,H1,I1,o,f⟩=>?_) (by rw[hs,l]) (by rw[l];rfl)));obtain⟨i,j,e,⟨xs,f⟩,⟨ys,A⟩,q⟩:=f;subst e;obtain⟨u,P,rfl,C,D⟩:=vals2 o;cases C;cases D;obtain⟨E,_,G,_⟩:=I1.tuple f;obtain⟨J,_,p2,_⟩:=I1.tuple A;refine callType_new F.called_zip ξ (F.typeCall_zip_2 _ _) (F.newCall_zip_2 _ _) (fun obj=>F.args_object_init_3 obj _ _) F.entry_zip_new (HK i j E.toArray J.toArray) ⟨G,p2,fun h' g r v w x y=>?_⟩;refine⟨⟨_,g,rfl⟩,wpAny_pyIter_zip g ?_⟩;have O:Inv X aa σ H1 {c with heap:=h'}:=I1.kept (t':=c.toks) y;refine⟨c⁻¹+4,[c⁻¹+4,c⁻¹+2,c⁻¹+3,c⁻¹,c⁻¹+1],_,_,H1,rfl,O,HJ i j _ _ _ _ _ (by refine⟨?_,?_,?_,?_,?_,?_,?_,?_,?_,?_⟩<;>(intro z;have Q:(_:Nat)=_:=z;omega)),⟨g,r,⟨_,_,v⟩,w,x⟩,fun b hb=>?_,q⟩;have d:c⁻¹<=b:=by
  simp only[List.mem_cons,List.not_mem_nil,or_false] at hb;rcases hb with rfl|rfl|rfl|rfl|rfl
  ·exact Nat.le_add_right _ _
  ·exact Nat.le_add_right _ _
  ·exact Nat.le_add_right _ _
  ·exact Ag _
  ·exact Nat.le_add_right _ _
 exact I1.fpOk d (I1.hok.fresh d)
def dJ:∀{bs:List Bool}{us:List Value},Vals (bs.map V.bl) us->LSm.BoolsAre us bs
 |[],_,.nil=>.nil
 |b::bs,_,.cons r t=>by cases r;exact .cons b (dJ t)
def Cm(hc:X.calm=true):df X (.builtin "all") (fun xs H Q=>∃(l:Addr)(bs:List Bool),xs=[.ref l]/\SqL X.K H l (bs.map V.bl)/\Q (.bl (bs.all id)) H):=by
 intro aa s σ H xs us Q I r h;obtain⟨l,bs,rfl,hq,q⟩:=h;obtain⟨u,rfl,g⟩:=vals1 r;cases g;obtain⟨a,j,o,_⟩:=I.list hq;have hh:=I.ok.hd hc;have hl:=o.isList;have hb:=dJ j;have c:l<s⁻¹:=by obtain⟨_,e,_⟩:=hl;exact Ar e
 refine call_all_walk (wpAny_pyIter_list hl ?_);refine⟨s⁻¹,[s⁻¹,l],[s⁻¹],a.toArray.size,_,_,fun i=>(bs[i]?).getD true,rfl,Walks.list (A:=X.A.in1) hh _ l (Az c) a.toArray,
  ⟨⟨_,Ao _ rfl,rfl,rfl⟩,hl.push _⟩,fun i v s' p w f d=>?_,fun h' tk hk=>?_⟩
 ·obtain⟨b,e,rfl⟩:=hb.get i v (by simpa using f)
  simp only[e,Option.getD_some] at d;exact wpAny_truthy_bool d
 ·have e:((AB a.toArray.size).all fun i=>(bs[i]?).getD true)=bs.all id:=by
   rw[Aj,hb.length];exact LSm.range_all bs
  rw[e];exact⟨.bl _,H,I.kept (LSm.kept_iter hk),rfl,q⟩
end
section
variable{K:Af}{a:Addr}{xs:List V}{g:TG}{tc:TT}{te:TE}{σ:St}{H1:Hp}{Q:VK}{D:Addr}
def wN(n:Nat)(a:Nat->St->List V->Hp->Prop)(i m:Nat)(σ:St)(H:Hp):Prop:=m=n-i/\i<=n/\∃ys,ys.length<=i/\a i σ ys H
def dX(n:Nat)(d:Nat->St->List V->Hp->Prop)(D:Addr)(i:Nat)(c:St):VK:=fun y b=>∃ys a,b D=some (.lst ys)/\ys.length<sizeLine/\a<n-i/\wN n d (i+1) a c (upd b D (.lst (ys++[y])))
def cM(n:Nat)(c:Nat->St->List V->Hp->Prop)(i:Nat)(b:St)(d:Hp):Prop:=∃a,a<n-i/\wN n c (i+1) a b d
def bx{n:Nat}{c:Nat->St->List V->Hp->Prop}{i:Nat}{b:St}{ys:List V}{y:V}{a:Hp}(hn:n<=sizeLine)(hi:i<n)(hl:ys.length<=i)(e:a D=some (.lst ys))(p:c (i+1) b (ys++[y]) (upd a D (.lst (ys++[y])))):dX n c D i b y a:=
 ⟨ys,n-(i+1),e,ω,ω,rfl,hi,ys++[y],by simp;omega,p⟩
def b7{n:Nat}{b:Nat->St->List V->Hp->Prop}{i:Nat}{a:St}{ys:List V}{c:Hp}(hi:i<n)(hl:ys.length<=i)(p:b (i+1) a ys c):cM n b i a c:=
 ⟨n-(i+1),ω,rfl,hi,ys,ω,p⟩
def m6{J:It}(n:Nat)(a:Nat->St->List V->Hp->Prop)(j:a 0 σ [] (upd H1 D (.lst [])))(l:∀σ ys H,a n σ ys H->J.stop n H)(o:∀i σ ys H,i<n->a i σ ys H->J.go i H)(hs:∀i σ ys H x H',i<n->ys.length<=i->a i σ ys H->J.yld i H x H'->g x σ H' fun d q=>tc d q fun b h=>if b=true then te d h (dX n a D i d) else cM n a i d h)(hd:∀σ ys H,a n σ ys H->Q (.ref D) H):cg J g tc te σ H1 D Q:=by
 refine⟨wN n a,⟨n,by simp,AL _,[],Ag _,j⟩,?_⟩;rintro i m f H2 ⟨rfl,hi,ys,hl,p⟩
 by_cases c:i<n
 ·exact .inr ⟨o i f ys H2 c p,fun x r y=>hs i f ys H2 x r c hl p y⟩
 ·have e:i=n:=ω
  subst e;exact .inl ⟨l f ys H2 p,hd f ys H2 p⟩
def zH(c:Nat->St->List V->Hp->Prop)(h:c 0 σ [] (upd H1 D (.lst [])))(hl:∀i σ ys H,c i σ ys H->SqL K H a xs)(hs:∀i σ ys H x,xs[i]?=some x->i<xs.length->ys.length<=i->c i σ ys H->g x σ H fun d j=>tc d j fun b f=>if b=true then te d f (dX xs.length c D i d) else cM xs.length c i d f)(hd:∀σ ys H,c xs.length σ ys H->Q (.ref D) H):cg (dn K a) g tc te σ H1 D Q:=by
 refine m6 xs.length c h (fun σ ys H p=>⟨xs,hl _ _ _ _ p,Ag _⟩) (fun i σ ys H hi p=>⟨xs,xs[i],hl _ _ _ _ p,by simp[hi]⟩) (fun i σ ys H x H' hi hy p y=>?_) hd;obtain⟨e,y⟩:=y;subst e;exact hs i σ ys _ x (y xs (hl _ _ _ _ p)) hi hy p
def HM(c:Nat->St->List V->Hp->Prop)(h:c 0 σ [] (upd H1 D (.lst [])))(hl:∀i σ ys H,c i σ ys H->SqT K H a xs)(hs:∀i σ ys H x,xs[i]?=some x->i<xs.length->ys.length<=i->c i σ ys H->g x σ H fun d j=>tc d j fun b f=>if b=true then te d f (dX xs.length c D i d) else cM xs.length c i d f)(hd:∀σ ys H,c xs.length σ ys H->Q (.ref D) H):cg (jk K a) g tc te σ H1 D Q:=by
 refine m6 xs.length c h (fun σ ys H p=>⟨xs,hl _ _ _ _ p,Ag _⟩) (fun i σ ys H hi p=>⟨xs,xs[i],hl _ _ _ _ p,by simp[hi]⟩) (fun i σ ys H x H' hi hy p y=>?_) hd;obtain⟨e,y⟩:=y;subst e;exact hs i σ ys _ x (y xs (hl _ _ _ _ p)) hi hy p
def pU{lo:Int}{n:Nat}(a:Nat->St->List V->Hp->Prop)(f:a 0 σ [] (upd H1 D (.lst [])))(hs:∀i σ ys H,i<n->ys.length<=i->a i σ ys H->g (.int (lo+i)) σ H fun c h=>tc c h fun b d=>if b=true then te c d (dX n a D i c) else cM n a i c d)(hd:∀σ ys H,a n σ ys H->Q (.ref D) H):cg (eN lo n) g tc te σ H1 D Q:=by
 refine m6 n a f (fun σ ys H p=>Ag _) (fun i σ ys H hi p=>hi) (fun i σ ys H x H' hi hy p y=>?_) hd;obtain⟨e,y⟩:=y;subst e y;exact hs i σ ys _ hi hy p
def HN{d e:Addr}{ys:List V}(a:Nat->St->List V->Hp->Prop)(q:a 0 σ [] (upd H1 D (.lst [])))(hl:∀i σ zs H,a i σ zs H->SqT K H d xs/\SqT K H e ys)(hs:∀i σ zs H p x y,xs[i]?=some x->ys[i]?=some y->i<min xs.length ys.length->zs.length<=i->a i σ zs H->H p=none->g (.ref p) σ (upd H p (.tup [x,y])) fun c r=>tc c r fun b f=>if b=true then te c f (dX (min xs.length ys.length) a D i c) else cM (min xs.length ys.length) a i c f)(hd:∀σ zs H,a (min xs.length ys.length) σ zs H->Q (.ref D) H):cg (wz K d e) g tc te σ H1 D Q:=by
 refine m6 (min xs.length ys.length) a q (fun σ zs H p=>⟨xs,ys,(hl _ _ _ _ p).1,(hl _ _ _ _ p).2,rfl⟩) (fun i σ zs H hi p=>⟨xs,ys,(hl _ _ _ _ p).1,(hl _ _ _ _ p).2,hi⟩) (fun i σ zs H v H' hi hy p y=>?_) hd;obtain⟨h,x,j,rfl,hp,rfl,l,o⟩:=y;exact hs i σ zs H h x j (l xs (hl _ _ _ _ p).1) (o ys (hl _ _ _ _ p).2) hi hy p hp
end
end L2
end
section
namespace Dk
open PySem PySem.Spec PyProof.Rows
def IsD(h:Heap)(d:Addr)(es:Array DictEntry)(ep:Nat):Prop:=∃o,h.get? d=some o/\o.ExactDict/\o.data=.dict es ep
def IsD.at{h h':Heap}{d:Addr}{es:Array DictEntry}{ep:Nat}(x:IsD h d es ep)(k:∀o,h.get? d=some o->h'.get? d=some o):IsD h' d es ep:=let ⟨o,ho,r⟩:=x;⟨o,k o ho,r⟩
def IsD.lt{h:Heap}{d:Addr}{es:Array DictEntry}{ep:Nat}(x:IsD h d es ep):d<h.objs.size:=let ⟨_,ho,_⟩:=x;Ar ho
section
variable{prog:Program}{w:World}{A:Around}{E:Ω}{s:Shared}{it d:Addr}{i ep:Nat}{es:Array DictEntry}
def IsD.typeIs(x:IsD s.heap d es ep):s.TypeIs (.ref d) "dict":=let ⟨o,ho,r⟩:=x;⟨o,ho,r.1.1⟩
def iter{Q:Ω}(hd:(d==Be)=false)(hm:IsD s.heap d es ep)(e:Q (.ref s⁻¹) {s with heap:=s.heap.push {cls:=.type "dict_keyiterator",data:=.fields #[.ref d,.int 0 0,.int es.size 0,.int ep 0]}}):wpAny (model prog w) A (pyIter (.ref d)) Q E s:=by
 have a:=hm.typeIs;obtain⟨o,b,hc,c⟩:=id hm;refine wpAny_pyIter_slot a PySem.F.slot_dict_iter (wpAny_call_entry PySem.F.slot_dict_iter a PySem.F.entry_dict_iter ?_ (PySem.F.args_dict_iter_1 _));unfold Builtin.«dict.__iter__»;refine Ab ?_;unfold Builtin.Dict.dictSlotNone;refine Ab (wpAny_notOrdered_dict a ?_);show wpAny _ _ (pure (Value.ref d)) _ _ s;refine Ac ?_;show wpAny _ _ (Builtin.Dict.showsAll d >>= _) _ _ s;unfold Builtin.Dict.showsAll;rw[if_neg (by rw[hd];exact At)];refine Ab (Ac ?_);refine Ab (wpAny_dictEntries b c ?_);refine Ab (wpAny_dictEpoch b c ?_);refine Ab (Bb (Ac ⟨_,rfl,"dict_keyiterator",_,⟨_,Ao _ rfl,rfl⟩,PySem.F.slot_dict_keyiterator_next.lookup,?_⟩))
 simpa[rawInt] using e
def item{Q:Option Value->Shared->Prop}(a:s.heap.IsKeyIter it d i es.size ep)(hm:IsD s.heap d es ep)(hx:i<es.size)(h:∀h',h'.IsKeyIter it d (i+1) es.size ep->A6 it s.heap h'->Q (some es[i].key) {s with heap:=h'}):wpAny (model prog w) A (pyNext (.ref it)) Q E s:=by
 obtain⟨o,b,hc,hd⟩:=id a;obtain⟨j,c,l,e⟩:=id hm;unfold pyNext;refine Ab (wpAny_attempt (wpAny_callSpecial?_slot (name:=Str.ofString "__next__") a.typeIs PySem.F.slot_dict_keyiterator_next
  (wpAny_call_entry PySem.F.slot_dict_keyiterator_next a.typeIs PySem.F.entry_dict_keyiterator_next ?_ (PySem.F.args_dict_keyiterator_next_1 _))))
 refine Ab (Ac ?_);refine Ab ?_;refine Ab ?_
 first|refine Ab (wpAny_typeNameOfWhole_keyiter a.typeIs (Ac ?_))|refine Ab (wpAny_typeNameOf_keyiter a.typeIs (Ac ?_))
 refine Ab (wpAny_fieldsOf b hd ?_);have g:Builtin.Dict_items.ownsTuple "dict_keyiterator"=false:=ξ
 simp only[g,Au,if_false];show wpAny _ _ (if(Value.ref d==Value.none)=true then _ else _) _ _ s;rw[if_neg (show ¬((Value.ref d==Value.none)=true) from At)];refine Ab (Ac ?_);refine Ab (wpAny_dictEntries c e ?_);rw[if_neg (by simp)];refine Ab (Ac ?_);refine Ab (wpAny_dictEpoch c e ?_);rw[if_neg (by simp)];refine Ac ?_;simp only[show ¬((i:Int)<0) from ω,if_false,Int.toNat_natCast,Array.getElem?_eq_getElem hx];refine Ab ?_
 first|refine Ab (wpAny_typeNameOfWhole_keyiter a.typeIs (Ac ?_))|refine Ab (wpAny_typeNameOf_keyiter a.typeIs (Ac ?_))
 refine Ab (wpAny_isOneOf_keyiter a.typeIs ?_);show wpAny _ _ (setField (.ref it) 1 (rawInt ((i:Int)+1)) >>= _) _ _ s;refine Ab (wpAny_setField b hd (by simp) ?_);have f:(s.heap.update it (Obj.mapFields (·.setIfInBounds 1 (rawInt ((i:Int)+1))))).IsKeyIter it d (i+1) es.size ep:=
  ⟨_,Heap.get?_update_self _ b (Obj.isFreed_of_fields (Obj.data_mapFields hd _)),(Obj.cls_mapFields ..).trans hc,by rw[Obj.data_mapFields hd];simp[rawInt]⟩
 refine Ab (AM ?_);refine Ab (wpAny_isOneOf_keyiter (s:={s with heap:=s.heap.update it (Obj.mapFields (·.setIfInBounds 1 (rawInt ((i:Int)+1))))}) f.typeIs ?_);show wpAny _ _ (pure es[i].key) _ _ _;exact Ac (Ac ⟨_,rfl,Ac (h _ f (AO ..))⟩)
def done{Q:Option Value->Shared->Prop}(hh:A.handled=none)(c:s.heap.IsKeyIter it d es.size es.size ep)(hm:IsD s.heap d es ep)(i:∀h',Heap.ExtBut it s.heap h'->Q none {s with heap:=h'}):wpAny (model prog w) A (pyNext (.ref it)) Q E s:=by
 obtain⟨o,e,hc,hd⟩:=id c;obtain⟨j,f,l,g⟩:=id hm;unfold pyNext;refine Ab (wpAny_attempt (wpAny_callSpecial?_slot (name:=Str.ofString "__next__") c.typeIs PySem.F.slot_dict_keyiterator_next
  (wpAny_call_entry PySem.F.slot_dict_keyiterator_next c.typeIs PySem.F.entry_dict_keyiterator_next ?_ (PySem.F.args_dict_keyiterator_next_1 _))))
 refine Ab (Ac ?_);refine Ab ?_;refine Ab ?_
 first|refine Ab (wpAny_typeNameOfWhole_keyiter c.typeIs (Ac ?_))|refine Ab (wpAny_typeNameOf_keyiter c.typeIs (Ac ?_))
 refine Ab (wpAny_fieldsOf e hd ?_);have h:Builtin.Dict_items.ownsTuple "dict_keyiterator"=false:=ξ
 simp only[h,Au,if_false];show wpAny _ _ (if(Value.ref d==Value.none)=true then _ else _) _ _ s;rw[if_neg (show ¬((Value.ref d==Value.none)=true) from At)];refine Ab (Ac ?_);refine Ab (wpAny_dictEntries f g ?_);rw[if_neg (by simp)];refine Ab (Ac ?_);refine Ab (wpAny_dictEpoch f g ?_);rw[if_neg (by simp)];refine Ac ?_;simp only[show ¬((es.size:Int)<0) from ω,if_false,Int.toNat_natCast,Array.getElem?_eq_none (Ag es.size)];refine Ab ?_
 first|refine Ab (wpAny_typeNameOfWhole_keyiter c.typeIs (Ac ?_))|refine Ab (wpAny_typeNameOf_keyiter c.typeIs (Ac ?_))
 show wpAny _ _ (setField (.ref it) 0 .none >>= _) _ _ s;refine Ab (wpAny_setField e hd (by simp) ?_);show wpAny _ _ (newExc (.type "StopIteration") [] >>= _) _ _ _;refine Ab ?_;simp only[newExc,newTuple];refine Ab (Bb ?_ (by size_fits));refine Ab (m:=firstArgMember _ _) (wpAny_of_eq (a:=Value.none) (by first|rfl|(simp only[firstArgMember];rfl)) ?_);refine Bb ?_ (by size_fits);simp only[raiseNew];refine Ab (wpAny_handled ?_);rw[show A.in1.handled=none from hh];refine Ab (Ac (wpAny_throw ?_));refine Ab (wpAny_isInstance (T:="StopIteration") (b:=true) ⟨_,Ao _ rfl,rfl⟩ isSubtype_stop ?_);exact Ac (i _ (((AO ..).extBut.push _).push _))
def walks(hh:A.handled=none)(I d:Addr)(c:d≠I)(es:Array DictEntry)(ep:Nat):Walks prog w A I [I,d] [I] es.size (fun i v=>∃e,es[i]?=some e/\v=e.key) (fun i h=>h.IsKeyIter I d i es.size ep/\IsD h d es ep) where
 sub:=fun b hb=>by simp at hb ⊢;exact .inl hb
 frame:=fun i h h' st k=>⟨let ⟨o,ho,r⟩:=st.1;⟨o,k I (by simp) o ho,r⟩,st.2.at fun o e=>k d (by simp) o e⟩
 item:=fun i s Q E hi st a=>item st.1 st.2 hi fun h' g f=>a _ h' s.toks ⟨es[i],by simp[hi],rfl⟩ ⟨g,st.2.at fun o e=>(f.2 d c).trans e⟩ fun b o hb e=>(f.2 b (fun z=>hb (by simp[z]))).trans e
 done:=fun s Q E st a=>done hh st.1 st.2 fun h' j=>a h' s.toks fun b o hb e=>j b o (fun z=>hb (by simp[z])) e
 self:=fun i s Q E st a=>wpAny_pyIter_keyiter st.1 a
def src(lo:(d==Be)=false):PySem.W.KdlSrc prog w "dict" d d es.size (fun i v=>∃e,es[i]?=some e/\v=e.key) (fun h=>IsD h d es ep) where
 type:=fun _ hm=>hm.typeIs
 there:=fun _ hm=>⟨hm.lt,hm.lt⟩
 keep:=fun _ _ hm hk=>hm.at fun o e=>hk d (.inl rfl) o e
 notList:=ξ
 notTuple:=ξ
 hint:=fun _ _ _ _ hm hq=>PySem.W.kdl_hint_dict hm.typeIs hq
 iter:=fun _ s hh hm=>⟨_,_,(fun _ _ hq=>iter lo hm hq),walks hh _ d (Az hm.lt) es ep,⟨⟨_,Ao _ rfl,rfl,rfl⟩,hm.at fun o e=>Ad _ e⟩⟩
end
end Dk
namespace L2
open PySem PySem.Spec PyProof.Rows
section
variable{X:Cx}
def Cn{P:Program}{w:World}{k:Key}{u:Value}(h:(zo P w).is k u=true):RelV (kV k) u:=by
 rcases az h with ⟨i,t,rfl,rfl⟩|⟨x,t,rfl,rfl⟩
 ·exact⟨t,rfl⟩
 ·exact⟨t,rfl⟩
def Co(hc:X.calm=true):df X (.type "list") (fun xs H Q=>∃a kvs,xs=[.ref a]/\H a=some (.dT kvs)/\
  ∀(bs:List Addr),Paired (fun(p:List Key×V) b=>H b=some (.tup (p.1.map kV))) kvs bs->∀l,H l=none->Q (.ref l) (upd H l (.lst (bs.map V.ref)))):=by
 intro aa s σ H xs us Q I r h;obtain⟨a,kvs,rfl,hq,q⟩:=h;obtain⟨u,rfl,j⟩:=vals1 r;cases j;obtain⟨z,y,ys,c,o,es,ep,h1,h2,h3,d,h5⟩:=(show zJ X.prog X.w H s.heap a (.dT kvs) from I.hok a _ hq);have hl:es.size=kvs.length:=by
  have:=congrArg List.length d;rw[Aa,<-AZ c] at this
  simpa using this
 refine PySem.W.kdl_call (Dk.src (ep:=ep) (es:=es) y) (I.ok.hd hc) ⟨o,h1,h2,h3⟩ (by rw[hl];exact z) fun h' tk acc f g e it=>?_;obtain⟨n1,n2⟩:=it;have x:Paired (fun(p:List Key×V) b=>H b=some (.tup (p.1.map kV))) kvs (ys.map (·.2.1)):=by
  have:∀{l:List (List Key×V)}{m:List (List Key×Addr×Value)},KT H l m->Paired (fun(p:List Key×V) b=>H b=some (.tup (p.1.map kV))) l (m.map (·.2.1)):=by
   intro l m q
   induction q with
   |nil=>exact .nil
   |cons hq t ih=>exact .cons hq.2.1 ih
  exact this c
 have A:acc.toList=(ys.map (·.2.1)).map Value.ref:=by
  apply List.ext_getElem?;intro i;have hy:ys.length=acc.size:=by rw[n1,hl];exact(AZ c).symm
  by_cases hi:i<acc.size
  ·obtain⟨v,g1,g2⟩:=n2 i acc[i] (by simp[hi])
   have g3:es.toList[i]?=some v:=by simpa using g1
   rw[d,Ak] at g3;have g4:ys[i]?=some ys[i]:=by simp[hy,hi]
   rw[g4] at g3;simp only[Option.map_some,Option.some.injEq] at g3;simp only[Ak,g4,Option.map_some,AR,Array.getElem?_eq_getElem hi];rw[g2,<-g3]
   rfl
  ·have g1:acc.toList.length<=i:=by simp;omega
   have g2:((ys.map (·.2.1)).map Value.ref).length<=i:=by simp[hy];omega
   rw[List.getElem?_eq_none g1,List.getElem?_eq_none g2]
 have C:Vals ((ys.map (·.2.1)).map V.ref) acc.toList:=by
  rw[A];generalize ys.map (·.2.1)=bs
  induction bs with
  |nil=>exact .nil
  |cons b bs ih=>exact .cons rfl ih
 refine⟨.ref s⁻¹,_,I.laid g (Ag _) (show zJ X.prog X.w _ h' _ (.lst ((ys.map (·.2.1)).map V.ref)) from⟨?_,acc.toList,f,C,by simpa using e⟩),rfl,q _ x _ (I.hok.fresh (Ag _))⟩;simp only[Aa];rw[<-AZ c];exact z
def HP(hc:X.calm=true):df X (.type "list") (fun xs H Q=>∃a kvs,xs=[.ref a]/\H a=some (.dK kvs)/\∀l,H l=none->Q (.ref l) (upd H l (.lst (kvs.map fun kv=>kV kv.1)))):=by
 intro aa s σ H xs us Q I r h;obtain⟨a,kvs,rfl,hq,q⟩:=h;obtain⟨u,rfl,f⟩:=vals1 r;cases f;obtain⟨z,y,vs,b,dd⟩:=kU I.hok hq;obtain⟨ep,dd⟩:=dd.dictAt;have hl:=b.length;refine PySem.W.kdl_call (PySem.W.kdl_dict (knd:=zo X.prog X.w) (kvs:=vs) (ep:=ep) y) (I.ok.hd hc) dd (by rw[<-hl];exact z) fun h' tk acc c d e it=>?_;obtain⟨n1,n2⟩:=it;have g:Vals (kvs.map fun kv=>kV kv.1) acc.toList:=by
  have key:∀{l:List (Key×V)}{m:List (Key×Value)}{as:List Value},KV l m->as.length=m.length->(∀(i:Nat) v,as[i]?=some v->∃k x,m[i]?=some (k,x)/\(zo X.prog X.w).is k v=true)->Vals (l.map fun kv=>kV kv.1) as:=by
   intro l m as q
   induction q generalizing as with
   |nil=>intro h1 _;cases as with
    |nil=>exact .nil
    |cons _ _=>simp at h1
   |@cons p q' ps qs hq t ih=>
    intro h1 h2;cases as with
    |nil=>simp at h1
    |cons v as=>
     obtain⟨k,x,g1,g2⟩:=h2 0 v rfl;simp only[List.getElem?_cons_zero,Option.some.injEq] at g1;refine .cons ?_ (ih (by simpa using h1) fun i v e=>by simpa using h2 (i+1) v (by simpa using e));have:p.1=k:=by rw[hq.1,g1]
     show RelV (kV p.1) v;rw[this];exact Cn g2
  exact key b (by simpa using n1) fun i v e=>n2 i v (by simpa using e)
 refine⟨.ref s⁻¹,_,I.laid d (Ag _) (show zJ X.prog X.w _ h' _ (.lst (kvs.map fun kv=>kV kv.1)) from⟨?_,acc.toList,c,g,by simpa using e⟩),rfl,q _ (I.hok.fresh (Ag _))⟩
 simpa using z
end
end L2
end
section
namespace L2
open PySem PySem.Spec PyProof.Rows
def Tp(H:Hp)(a:Addr)(ps:List Int):Prop:=H a=some (.tup (ps.map V.int))
abbrev Tps(H:Hp)(as:List Addr)(pss:Ξ):Prop:=Paired (fun a ps=>Tp H a ps) as pss
def Same.tp{H H':Hp}{a:Addr}{ps:List Int}(e:Same H H')(h:Tp H a ps):Tp H' a ps:=e _ _ h
def Same.tps{H H':Hp}{as:List Addr}{pss:Ξ}(e:Same H H')(h:Tps H as pss):Tps H' as pss:=Paired.mapP h fun _ _ q=>e.tp q
def Same.new{H:Hp}{a:Addr}{o:HO}(h:H a=none):Same H (upd H a o):=fun b u e=>by rw[ab (ze e h)];exact e
def Same.then{H H1:Hp}{a:Addr}{o:HO}(e:Same H H1)(h:H a=none):Same H (upd H1 a o):=fun b u q=>by rw[ab (ze q h)];exact e b u q
def Tps.length{H:Hp}{as:List Addr}{pss:Ξ}(h:Tps H as pss):as.length=pss.length:=AZ h
def Tps.get{H:Hp}:∀{as:List Addr}{pss:Ξ}{i:Nat}{a:Addr},Tps H as pss->as[i]?=some a->∃ps,pss[i]?=some ps/\Tp H a ps
 |_,_,_,_,.nil,e=>by simp at e
 |_,_,0,_,.cons r _,e=>by simp at e;subst e;exact⟨_,rfl,r⟩
 |_,_,i+1,a,.cons _ t,e=>by
  obtain⟨u,h1,h2⟩:=Tps.get (i:=i) (a:=a) t (by simpa using e);exact⟨u,by simpa using h1,h2⟩
def Tps.snoc{H:Hp}{as:List Addr}{pss:Ξ}{a:Addr}{ps:List Int}(h:Tps H as pss)(q:Tp H a ps):Tps H (as++[a]) (pss++[ps]):=by
 induction h with
 |nil=>exact .cons q .nil
 |cons r t ih=>exact .cons r ih
def Tps.append{H:Hp}{as bs:List Addr}{pss a:Ξ}(h:Tps H as pss)(q:Tps H bs a):Tps H (as++bs) (pss++a):=by
 induction h with
 |nil=>exact q
 |cons r t ih=>exact .cons r ih
def Tps.take{H:Hp}:∀{as:List Addr}{pss:Ξ}(n:Nat),Tps H as pss->Tps H (as.take n) (pss.take n)
 |_,_,0,_=>.nil
 |_,_,_+1,.nil=>.nil
 |_,_,n+1,.cons r t=>.cons r (Tps.take n t)
def Tps.drop{H:Hp}:∀{as:List Addr}{pss:Ξ}(n:Nat),Tps H as pss->Tps H (as.drop n) (pss.drop n)
 |_,_,0,r=>r
 |_,_,_+1,.nil=>.nil
 |_,_,n+1,.cons _ t=>Tps.drop n t
def aQ:∀{as:List Addr}{us:List Value},Vals (as.map V.ref) us->us=as.map Value.ref
 |[],_,.nil=>rfl
 |a::as,_,.cons r t=>by cases r;rw[aQ t];rfl
def wO{b:Type}(f:b->Addr):∀l:List b,Vals (l.map fun q=>V.ref (f q)) (l.map fun q=>Value.ref (f q))
 |[]=>.nil
 |a::l=>.cons rfl (wO f l)
section
variable{X:Cx}
def Cq{prog:Program}{w:World}{h:Heap}{c:Addr}{cs:List Value}{a:List Int}(hc:IsTup h c cs.toArray)(hi:IntsAre cs a):AS (zo prog w) h (a.map Sum.inl) c:=by
 obtain⟨o,e,b,k,d⟩:=hc;refine⟨o,cs.toArray,k,e,b,d,?_⟩;have:∀{cs:List Value}{a:List Int},IntsAre cs a->ItemsAre (zo prog w) (a.map Sum.inl) cs:=by
  intro cs a hi
  induction hi with
  |nil=>exact .nil
  |cons n t h ih=>exact .cons (tE prog w n t) ih
 simpa using this hi
def fI{ps a:List Int}:(ps.map Sum.inl:List Key)=a.map Sum.inl↔ps=a:=
 ⟨fun z=>(List.map_inj_right (f:=(Sum.inl:Int->Key)) (fun x y h=>Sum.inl.inj h)).mp z,fun z=>by rw[z]⟩
def HQ{aa:Ψ}{σ:St}{H:Hp}{s:Shared}{A:Around}{a b:Addr}{ps c:List Int}(I:Inv X aa σ H s)(g:Tp H a ps)(hb:Tp H b c)(hu:A.units<cLine):SeqAt.EqAt A s (.ref a) (.ref b) (decide (ps=c)):=by
 intro prog w E Q h;obtain⟨i,d,e,_⟩:=I.tuple (SqT.of g);obtain⟨j,f,p2,_⟩:=I.tuple (SqT.of hb);refine wpAny_eqBool_tuple (knd:=zo prog w) hu (Cq e (intsAre_of d)) (Cq p2 (intsAre_of f)) ?_;rw[show decide ((ps.map Sum.inl:List Key)=c.map Sum.inl)=decide (ps=c) from by simp only[fI]];exact h
def wQ:R2:=fun x y H Q=>∃a b xs ys,x=.ref a/\y=.ref b/\H a=some (.tup xs)/\H b=some (.tup ys)/\xs.length+ys.length<=sizeLine/\∀p H',Same H H'->H' p=some (.tup (xs++ys))->Q (.ref p) H'
def pX:cb X (binaryOp .Add) wQ:=by
 intro aa s σ H x y v u Q I p r h;obtain⟨a,b,xs,ys,rfl,rfl,e,hb,hz,q⟩:=h;cases p;cases r;obtain⟨E,c,f,_⟩:=I.tuple (SqT.of e);obtain⟨w,d,p2,_⟩:=I.tuple (SqT.of hb)
 by_cases hx:xs=[]
 ·subst hx
  have e1:=c.nil_iff.mpr rfl;subst e1;obtain⟨⟨cls,dd,data,A⟩,g,hc,n,hd⟩:=id f;obtain⟨⟨G,C,data2,D⟩,i,j,n2,l⟩:=id p2;simp only at hc hd j l;subst hc hd j l;exact concat_meets ⟨_,g,rfl⟩ ⟨_,i,rfl⟩ noFill_tuple_add seq_tuple_add PySem.F.slot_tuple_add PySem.F.entry_tuple_add (PySem.F.args_tuple_add_2 _ _)
   (tuple_addW0 a b (List.toArray []) w.toArray n n2 dd C A D (by simp)) ⟨g,i,.ref b,H,I,rfl,q b H (Same.refl H) (by simpa using hb)⟩
 ·refine HT.GI f p2 (fun z=>hx (c.nil_iff.mp z)) (fun z=>⟨.ref a,H,I,rfl,q a H (Same.refl H) ?_⟩) (fun z=>?_) (by rw[<-c.length,<-d.length];exact hz)
  ·rw[d.nil_iff.mp z,AN];exact e
  ·have hf:=I.hok.fresh (Ag s⁻¹)
   refine⟨.ref s⁻¹,_,I.laid (t':=s.toks) (o:=.tup (xs++ys)) (fun b ob q=>Ad _ q) (Ag _) ?_,rfl,q _ _ (Same.new hf) za⟩;exact⟨by rw[Ai];exact hz,_,c.append d,IsTup.new _ _⟩
def wV(neg:Bool)(K:Af):R2:=fun x y H Q=>∃a l ps as pss,x=.ref a/\y=.ref l/\Tp H a ps/\SqL K H l (as.map V.ref)/\Tps H as pss/\Q (.bl (if neg then !decide (ps∈pss) else decide (ps∈pss))) H
def ip(H:Hp)(ps:List Int)(u:Value):Bool:=match u with
 |.ref b=>(match H b with|some (.tup xs)=>decide (xs=ps.map V.int)|_=>false)
 |_=>false
def HS{ps a:List Int}:(ps.map V.int:List V)=a.map V.int↔ps=a:=
 ⟨fun z=>(List.map_inj_right (f:=V.int) (fun x y h=>V.int.inj h)).mp z,fun z=>by rw[z]⟩
def Cu{H:Hp}{b:Addr}{ps a:List Int}(h:Tp H b a):ip H ps (.ref b)=decide (a=ps):=by
 show(match H b with|some (.tup xs)=>decide (xs=ps.map V.int)|_=>false)=_;rw[show H b=some (.tup (a.map V.int)) from h];simp only[HS]
def Cv{H:Hp}{ps:List Int}{as:List Addr}{pss:Ξ}(h:Tps H as pss):(as.map Value.ref).any (ip H ps)=decide (ps∈pss):=by
 induction h with
 |nil=>simp
 |@cons a qs as pss r t ih=>
  rw[Av,List.any_cons,ih,Cu r]
  by_cases e:qs=ps
  ·subst e;simp
  ·have:¬ps=qs:=fun z=>e z.symm
   simp[e,this]
def Cy{aa:Ψ}{σ:St}{H:Hp}{s:Shared}{A:Around}{a:Addr}{ps:List Int}(I:Inv X aa σ H s)(c:Tp H a ps)(hu:A.units<cLine):∀{as:List Addr}{pss:Ξ},Tps H as pss->∀u∈as.map Value.ref,SeqAt.EqAt A s u (.ref a) (ip H ps u):=by
 intro as pss h
 induction h with
 |nil=>intro u hu;simp at hu
 |@cons b qs as pss r t ih=>
  intro u hm;rw[Av] at hm;rcases List.mem_cons.mp hm with rfl|hm
  ·rw[Cu r];exact HQ I r c hu
  ·exact ih u hm
def Cz(hu:X.A.in1.units<cLine):cb X (compareOp .NotIn) (wV true X.K):=by
 intro aa s σ H x y v u Q I b c h;obtain⟨a,l,ps,as,pss,rfl,rfl,d,hl,hp,q⟩:=h;cases b;cases c;obtain⟨f,r,e,hz⟩:=I.list hl;obtain rfl:=aQ r;refine SeqAt.notIn_listAt (ip H ps) e.isList (fun w hw=>Cy I d hu hp w (by simpa using hw)) ⟨.bl _,H,I,rfl,?_⟩;rw[show(as.map Value.ref).toArray.any (ip H ps)=(as.map Value.ref).any (ip H ps) by simp,Cv hp];exact q
def jA{aa:Ψ}{σ:St}{H:Hp}{s:Shared}{a:Addr}{ps:List Int}(I:Inv X aa σ H s)(c:Tp H a ps):Reads s.heap (.ref a) (.tuple (ps.map AV)) []:=by
 obtain⟨d,r,p,_⟩:=I.tuple (SqT.of c);obtain⟨o,b,hc,n,hd⟩:=id p;exact .tuple b hc hd ((PySem.W.ke_carried (intsAre_of r)).reads s.heap)
def HU{aa:Ψ}{σ:St}{H:Hp}{s:Shared}(I:Inv X aa σ H s):∀{as:List Addr}{pss:Ξ},Tps H as pss->ReadsAll s.heap (as.map Value.ref) (pss.map fun ps=>PyData.tuple (ps.map AV)) []:=by
 intro as pss h
 induction h with
 |nil=>exact .nil
 |cons r t ih=>exact .cons (as:=[]) (bs:=[]) (jA I r) ih
def p0{aa:Ψ}{σ:St}{H:Hp}{s:Shared}{l:Addr}{as:List Addr}{pss:Ξ}(I:Inv X aa σ H s)(hl:SqL X.K H l (as.map V.ref))(h:Tps H as pss):Reads s.heap (.ref l) (.list (pss.map fun ps=>PyData.tuple (ps.map AV))) [l]:=by
 obtain⟨b,r,p,_⟩:=I.list hl;obtain rfl:=aQ r;obtain⟨o,a,hc,n,hd⟩:=p.isList;exact .list a hc hd (by simpa using HU I h)
def wW(ps:List Int):PyData.canLay0 (.tuple (ps.map AV))=true:=by simp[PyData.canLay0,PySem.W.ke_canLayAll0]
def CA(ps:List Int):PyData.depth (.tuple (ps.map AV))=1:=by simp[PyData.depth,PySem.W.ke_depthAll]
def p3(ps:List Int):SeqAt.shaped (.tuple (ps.map AV))=true:=by
 simp[SeqAt.shaped,wW,CA]
def CB:∀pss:Ξ,PyData.canLayAll0 (pss.map fun ps=>PyData.tuple (ps.map AV))=true
 |[]=>rfl
 |ps::r=>by rw[Av,PyData.canLayAll0,wW,CB r];rfl
def CC:∀pss:Ξ,PyData.depthAll (pss.map fun ps=>PyData.tuple (ps.map AV))<=1
 |[]=>AL _
 |ps::r=>by rw[Av,PyData.depthAll,CA];exact Nat.max_le.mpr ⟨Ag _,CC r⟩
def p8(pss:Ξ):SeqAt.shaped (.list (pss.map fun ps=>PyData.tuple (ps.map AV)))=true:=by
 have:=CC pss;have e:PyData.depth (.list (pss.map fun ps=>PyData.tuple (ps.map AV)))<=64:=by rw[PyData.depth];omega
 unfold SeqAt.shaped;rw[decide_eq_true e,PyData.canLay0,CB]
 rfl
def w4:∀pss c:Ξ,sameAll (pss.map fun ps=>PyData.tuple (ps.map AV)) (c.map fun ps=>PyData.tuple (ps.map AV))=decide (pss=c)
 |[],[]=>by simp[sameAll]
 |[],_::_=>by simp[sameAll]
 |_::_,[]=>by simp[sameAll]
 |a::r,b::t=>by
  simp only[Av,sameAll,same,PySem.W.ke_sameAll,w4 r t]
  by_cases h:a=b<;>by_cases h':r=t<;>simp[h,h']
def p9(ps:List Int):(Shape.tuples .int).has (.tuple (ps.map AV))=true:=by simp[Shape.has]
def p_(pss:Ξ):(Shape.list (.tuples .int)).has (.list (pss.map fun ps=>PyData.tuple (ps.map AV)))=true:=by simp[Shape.has]
def iq(neg:Bool)(K:Af):R2:=fun x y H Q=>(∃a b ps c,x=.ref a/\y=.ref b/\Tp H a ps/\Tp H b c/\Q (.bl (if neg then !decide (ps=c) else decide (ps=c))) H) \/
 (∃l m as bs pss d,x=.ref l/\y=.ref m/\SqL K H l (as.map V.ref)/\Tps H as pss/\SqL K H m (bs.map V.ref)/\Tps H bs d/\Q (.bl (if neg then !decide (pss=d) else decide (pss=d))) H)
def HV(hu:X.A.units+64<cLine):cb X (compareOp .Eq) (iq false X.K):=by
 intro aa s σ H x y v u Q I e f h;rcases h with ⟨a,b,ps,c,rfl,rfl,g,hb,q⟩|⟨l,m,as,bs,pss,d,rfl,rfl,hl,hp,hm,hq,q⟩
 ·cases e
  cases f;refine eq_dataH_same (jA I g) (jA I hb) (p3 _) (p3 _) hu (SeqAt.noMix_of_shape (.tuples .int) rfl _ _ (p9 _) (p9 _)) ?_;rw[show same (.tuple (ps.map AV)) (.tuple (c.map AV))=decide (ps=c) from by simp only[same];exact PySem.W.ke_sameAll ps c];exact⟨.bl _,H,I,rfl,q⟩
 ·cases e
  cases f;refine eq_dataH_same (p0 I hl hp) (p0 I hm hq) (p8 _) (p8 _) hu (SeqAt.noMix_of_shape (.list (.tuples .int)) rfl _ _ (p_ _) (p_ _)) ?_;rw[show same (.list (pss.map fun ps=>PyData.tuple (ps.map AV))) (.list (d.map fun ps=>PyData.tuple (ps.map AV)))=decide (pss=d) from by simp only[same];exact w4 pss d];exact⟨.bl _,H,I,rfl,q⟩
def CD(hu:X.A.units+64<cLine):cb X (compareOp .NotEq) (iq true X.K):=by
 intro aa s σ H x y v u Q I e f h;rcases h with ⟨a,b,ps,c,rfl,rfl,g,hb,q⟩|⟨l,m,as,bs,pss,d,rfl,rfl,hl,hp,hm,hq,q⟩
 ·cases e
  cases f;refine ne_dataH_same (jA I g) (jA I hb) (p3 _) (p3 _) hu (SeqAt.noMix_of_shape (.tuples .int) rfl _ _ (p9 _) (p9 _)) ?_;rw[show same (.tuple (ps.map AV)) (.tuple (c.map AV))=decide (ps=c) from by simp only[same];exact PySem.W.ke_sameAll ps c];exact⟨.bl _,H,I,rfl,q⟩
 ·cases e
  cases f;refine ne_dataH_same (p0 I hl hp) (p0 I hm hq) (p8 _) (p8 _) hu (SeqAt.noMix_of_shape (.list (.tuples .int)) rfl _ _ (p_ _) (p_ _)) ?_;rw[show same (.list (pss.map fun ps=>PyData.tuple (ps.map AV))) (.list (d.map fun ps=>PyData.tuple (ps.map AV)))=decide (pss=d) from by simp only[same];exact w4 pss d];exact⟨.bl _,H,I,rfl,q⟩
def zml:V->List V->Hp->VK->Prop:=fun x vs H Q=>∃l xs i y,x=.ref l/\vs=[.int i,y]/\H l=some (.lst xs)/\0<=i/\i<=xs.length/\xs.length<sizeLine/\Q .non (upd H l (.lst (xs.take i.toNat++y::xs.drop i.toNat)))
def HW:pF X "list.insert" zml:=by
 intro aa s σ H x vs v us Q I d f h;obtain⟨l,xs,i,y,rfl,rfl,b,o,hi,hz,q⟩:=h;cases d;obtain⟨u,c,rfl,g,j⟩:=f.two;obtain⟨t,rfl⟩:=g;obtain⟨z,a,n,r,hl,e⟩:=I.lstM b;have p:sizeLine<2 ^ 62:=by rw[sizeLine_eq];decide
 have hf:Builtin.List.listFitsIndex i=true:=by
  unfold Builtin.List.listFitsIndex;simp only[AI,decide_eq_true_eq];constructor<;>omega
 refine call_meets F.slot_list_insert ⟨_,e,rfl⟩ F.entry_list_insert (F.args_list_insert_3 _ _ _) (PySem.AutoSeq1.list_insert_list_int_val_1 l a.toArray n i t c (by simp[hf]) (by rw[Aj];omega)) ⟨e,?_⟩;refine⟨.non,_,I.lset (its':=a.take i.toNat++c::a.drop i.toNat) (t':=s.toks) b e ?_ ((r.take _).append (.cons j (r.drop _))) ?_,rfl,q⟩
 ·have hk:(if i<0 then(i+(a.toArray.size:Int)).toNat else min i.toNat a.toArray.size)=i.toNat:=by
   rw[if_neg ω,Aj];omega
  dsimp only;rw[hk];simp;exact Ax (by rw[List.length_drop];exact Ag _)
 ·rw[Ai,An,Ay,List.length_drop]
  omega
def HX:df X (.type "int") (fun xs H Q=>∃x n,xs=[.str x]/\PySem.intText? x=some n/\x.length<=640/\Q (.int n) H):=by
 intro aa s σ H xs us Q I r h;obtain⟨x,n,rfl,hn,hl,q⟩:=h;obtain⟨u,rfl,t,rfl⟩:=vals1 r;exact PySem.W.KIN.call_text hn hl ⟨.int n,H,I.tok _,⟨_,rfl⟩,q⟩
end
section
variable{X:Cx}{aa:Ψ}{σ:St}{H:Hp}{s:Shared}
def CF{A:Around}(h:A.units+64<cLine):A.in1.in1.units<cLine:=by show A.units+1+1<cLine;omega
def in1_units{A:Around}(h:A.units+64<cLine):A.in1.units<cLine:=by show A.units+1<cLine;omega
def HY:df X (.builtin "sorted") (fun xs H Q=>∃(l:Addr)(a:List Int),xs=[.ref l]/\SqL X.K H l (a.map V.int)/\a.length<64/\∀(D:Addr)(f:List Int),f.Perm a->f.Pairwise (·<=·)->H D=none->Q (.ref D) (upd H D (.lst (f.map V.int)))):=by
 intro aa s σ H xs us Q I r h;obtain⟨l,a,rfl,hq,C,q⟩:=h;obtain⟨u,rfl,x⟩:=vals1 r;cases x;obtain⟨d,j,y,hz⟩:=I.list hq;have hi:IntsAre d a:=intsAre_of j;have b:=j.length;rw[Aa] at b hz;refine bD.Ce (ls:=a.map fun n=>[n]) (good:=fun _=>True) y.isList (bD.Hq hi) (fun _ _=>trivial) ω ω fun g c=>?_;obtain⟨ps,hp,c,hs⟩:=c;have all:∀p∈ps,∃n t,p.1=[n]/\p.2=Value.int n t:=fun p v=>by
  obtain⟨i,e⟩:=List.mem_iff_getElem?.mp (hp.mem_iff.mp v);rw[bD.bw,Ak] at e;cases e1:a[i]? with
  |none=>rw[e1] at e;simp at e
  |some n=>
   obtain⟨t,e2⟩:=hi.get i n e1;rw[e1,e2] at e;simp only[Option.map_some,Option.bind_some,Option.some.injEq] at e;subst e;exact⟨n,t,rfl,rfl⟩
 have z:∀ps:List (List Int×Value),(∀p∈ps,∃n t,p.1=[n]/\p.2=Value.int n t)->Vals ((ps.map fun p=>p.1.headD 0).map V.int) (ps.map (·.2)):=by
  intro ps
  induction ps with
  |nil=>intro _;exact .nil
  |cons p ps ih=>
   intro h;obtain⟨n,t,e1,e2⟩:=h p As;refine .cons ?_ (ih fun q hq=>h q (Aq _ hq));show RelV (V.int (p.1.headD 0)) p.2;rw[e1,e2];exact⟨t,rfl⟩
 have o:(ps.map fun p=>p.1.headD 0).Perm a:=by
  have h1:=hp.map (fun p:List Int×Value=>p.1.headD 0);have e:((a.map fun n=>[n]).zip d).map (fun p:List Int×Value=>p.1.headD 0)=a:=by
   rw[show(fun p:List Int×Value=>p.1.headD 0)=(fun l:List Int=>l.headD 0) ∘ Prod.fst from rfl,<-Ap,List.map_fst_zip (by rw[Aa];omega),Ap];exact List.map_id' a
  rw[e] at h1;exact h1
 have A:(ps.map fun p=>p.1.headD 0).Pairwise (·<=·):=by
  rw[A2];refine hs.imp_of_mem fun{p q} h1 h2 h3=>?_;obtain⟨n,t,e1,_⟩:=all p h1;obtain⟨m,t',e2,_⟩:=all q h2;rw[e1,e2,HT.zz] at h3;rw[e1,e2];show n<=m
  by_cases e:m=n
  ·omega
  ·rw[if_neg e] at h3
   have:=of_decide_eq_false h3;omega
 obtain⟨e,he⟩:=sortedAll_at s.heap d g;refine⟨.ref (s⁻¹+1),_,I.laid (t':=s.toks) (fun _ _=>sortedAll_old) (Nat.le_succ _) (show zJ X.prog X.w _ _ _ (.lst ((ps.map fun p=>p.1.headD 0).map V.int)) from⟨?_,g.toList,e,?_,?_⟩),rfl,q _ _ o A (I.hok.fresh (Nat.le_succ _))⟩
 ·rw[Aa,o.length_eq];exact hz
 ·rw[c];exact z ps all
 ·simpa using he
def m7(H:Hp)(p:Addr)(l:List Int):Prop:=∃n b ps,l=n::ps/\H p=some (.tup [.int n,.ref b])/\Tp H b ps
def jB{p:Addr}{l:List Int}(I:Inv X aa σ H s)(h:m7 H p l):bD.IsPr s.heap (.ref p) l:=by
 obtain⟨n,b,ps,rfl,h1,h2⟩:=h;obtain⟨g,a,c,_⟩:=I.tuple (SqT.of (K:=X.K) h1);obtain⟨u,i,rfl,⟨t,rfl⟩,d⟩:=vals2 a;cases d;obtain⟨e,f,p2,_⟩:=I.tuple (SqT.of (K:=X.K) h2);exact⟨p,b,n,t,e,ps,rfl,rfl,c,p2,intsAre_of f⟩
def HZ{h h':Heap}{u:Value}{l:List Int}(k:∀b o,h.get? b=some o->h'.get? b=some o)(x:bD.IsPr h u l):bD.IsPr h' u l:=by
 obtain⟨a,b,n,t,d,ps,e1,e2,⟨o,e,hc⟩,⟨o',c,hc'⟩,i⟩:=x;exact⟨a,b,n,t,d,ps,e1,e2,⟨o,k _ _ e,hc⟩,⟨o',k _ _ c,hc'⟩,i⟩
def iR{a b:Type}{R:a->b->Prop}{l:List a}{m:List b}(p:Paired R l m):∀(i:Nat) x y,l[i]?=some x->m[i]?=some y->R x y:=by
 induction p with
 |nil=>intro i x y h;simp at h
 |cons r t ih=>
  intro i x y h1 h2;cases i with
  |zero=>simp at h1 h2;subst h1 h2;exact r
  |succ i=>exact ih i x y (by simpa using h1) (by simpa using h2)
def addrOf:Value->Addr
 |.ref a=>a
 |_=>0
def H_(hu:X.A.units+64<cLine):df X (.builtin "sorted") (fun xs H Q=>∃(l:Addr)(as:List Addr)(ls:Ξ),xs=[.ref l]/\SqL X.K H l (as.map V.ref)/\Paired (m7 H) as ls/\ls.length<64/\
  ∀(D:Addr)(j:List (List Int×Addr)),j.Perm (ls.zip as)->j.Pairwise (fun a b=>HT.lexLt b.1 a.1=false)->H D=none->Q (.ref D) (upd H D (.lst (j.map fun q=>V.ref q.2)))):=by
 intro aa s σ H xs us Q I r h;obtain⟨l,as,ls,rfl,hq,hp,G,q⟩:=h;obtain⟨u,rfl,z⟩:=vals1 r;cases z;obtain⟨J,v,C,hz⟩:=I.list hq;have c:=v.length;obtain rfl:=aQ v;rw[Aa] at c hz;have E:=AZ hp;have F:∀h:Heap,(∀b o,s.heap.get? b=some o->h.get? b=some o)->∀(i:Nat) u l,(as.map Value.ref)[i]?=some u->ls[i]?=some l->bD.IsPr h u l:=fun h hk i u l h1 h2=>by
  rw[Ak] at h1;cases e:as[i]? with
  |none=>rw[e] at h1;simp at h1
  |some a=>
   rw[e] at h1;obtain rfl:=Am h1;exact HZ hk (jB I (iR hp i a l e h2))
 refine bD.Ce (ls:=ls) (good:=fun h=>∀b o,s.heap.get? b=some o->h.get? b=some o) C.isList (bD.B' (by rw[Aa];exact E) (CF hu) ⟨s.heap,fun _ _ e=>e⟩ F) (fun h' hk=>hk) (by rw[Aa];exact hz) (by rw[Aa];omega) fun d f=>?_;obtain⟨ps,x,f,hs⟩:=f;have all:∀p∈ps,p.2=Value.ref (addrOf p.2):=fun p g=>by
  have:=(List.of_mem_zip (x.mem_iff.mp g:(p.1,p.2)∈ls.zip (as.map Value.ref))).2;obtain⟨a,_,e⟩:=List.mem_map.mp this;rw[<-e];rfl
 have y:(ps.map fun p=>(p.1,addrOf p.2)).Perm (ls.zip as):=by
  have h1:=x.map (fun p:List Int×Value=>(p.1,addrOf p.2));have e:(ls.zip (as.map Value.ref)).map (fun p:List Int×Value=>(p.1,addrOf p.2))=ls.zip as:=by
   rw[List.zip_map_right,Ap];exact(AJ fun p _=>rfl).trans (List.map_id' _)
  rw[e] at h1;exact h1
 obtain⟨e,he⟩:=sortedAll_at s.heap (as.map Value.ref) d;have ex:d.toList=((ps.map fun p=>(p.1,addrOf p.2)).map fun q=>Value.ref q.2):=by
  rw[f,Ap];exact AJ fun p g=>all p g
 refine⟨.ref (s⁻¹+1),_,I.laid (t':=s.toks) (fun _ _=>sortedAll_old) (Nat.le_succ _) (show zJ X.prog X.w _ _ _ (.lst ((ps.map fun p=>(p.1,addrOf p.2)).map fun q=>V.ref q.2)) from⟨?_,d.toList,e,?_,?_⟩),rfl,q _ _ y ?_ (I.hok.fresh (Nat.le_succ _))⟩
 ·rw[Aa,y.length_eq,List.length_zip];omega
 ·rw[ex]
  exact wO (fun q:List Int×Addr=>q.2) _
 ·simpa using he
 ·rw[A2];exact hs
def qa:Sp:=fun vs H Q _=>∃a ps,vs=[.ref a]/\Tp H a ps/\∀p,H p=none->Q (.ref p) (upd H p (.tup [.int ps.length,.ref a]))
def iS{b:Addr}(h:bm X aa H b):∀c∈[b],bm X aa H c:=fun c hc=>by rw[List.mem_singleton.mp hc];exact h
def nf{H':Hp}{b:Addr}(f:bm X aa H b)(hn:H' b=none):bm X aa H' b:=⟨hn,f.2⟩
def CG{b:Addr}(I:Inv X aa σ H s)(f:bm X aa H b):b∉frs X.stack:=fun hb=>by
 rcases List.mem_cons.mp (I.stkSub b hb) with e|e
 ·exact f.2.1 e
 ·exact f.2.2.1 e
def Ia{k:Nat}{f l:Addr}{fd:FuncData}{as:List Addr}{pss:Ξ}{x:Str}{Q:Ω}(F:FnOk X.prog X.w X.K X.mg X.base aJ k f fd [x] qa)(hr:Room (k+2) X.A)(hb:Binds X.K fd [x] [])(I:Inv X aa σ H s)(hl:SqL X.K H l (as.map V.ref))(ht:Tps H as pss)(bj:pss.length<64)(h:∀D H'(C:List (List Int×Addr)) s',Inv X aa σ H' s'->Same H H'->H D=none->H' D=some (.lst (C.map fun q=>V.ref q.2))->C.Perm (pss.zip as)->
   C.Pairwise (fun a b=>HT.lexLt ((b.1.length:Int)::b.1) ((a.1.length:Int)::a.1)=false)->Q (.ref D) s'):
  wpAny (model X.prog X.w) X.A (call (.builtin "sorted") [.ref l] [(Str.ofString "key",.ref f)]) Q X.xe s:=by
 have hu:X.A.units+64<cLine:=hr.units;obtain⟨ae,r1,p1,hz⟩:=I.list hl;have hlen:=r1.length;obtain rfl:=aQ r1;have aw:=ht.length;rw[Aa] at hlen hz;have P:(as.map Value.ref).length<=sizeLine:=by rw[Aa];exact hz
 generalize hvs:as.map Value.ref=vs at p1 P;have pY:vs.length=as.length:=by rw[<-hvs,Aa]
 refine call_function_entry_kw kind_sorted plain_sorted entry_sorted (ksk_s1 _ _) ?_;unfold Builtin.«sorted»;refine Ab (m:=checkCount "sorted" 1 1 _) (Ac ?_);refine Ab (collect_list p1.isList ?_ P);refine Ab (wpAny_newList ?_ P);have hsz:((s.heap.push (seqObj "list" #[] 0)).update s⁻¹ (AA (·++vs.toArray))).objs.size=s⁻¹+1:=by
  rw[Heap.size_update,size_push']
 have g:(((s.heap.push (seqObj "list" #[] 0)).update s⁻¹ (AA (·++vs.toArray))).push (seqObj "list" vs.toArray 0)).get? (s⁻¹+1)=some (seqObj "list" vs.toArray 0):=by
  rw[<-hsz];exact Ao _ rfl
 have keep:∀b o,s.heap.get? b=some o->(((s.heap.push (seqObj "list" #[] 0)).update s⁻¹ (AA (·++vs.toArray))).push (seqObj "list" vs.toArray 0)).get? b=some o:=fun b o q=>by
  have L:b<s⁻¹:=Ar q;rw[Heap.get?_push_ne _ _ _ (by rw[hsz];exact Az (AY L)),Heap.get?_update_ne _ _ _ _ (Az L),Heap.get?_push_ne _ _ _ (Az L)];exact q
 show wpAny _ _ _ _ _ {s with heap:=((s.heap.push (seqObj "list" #[] 0)).update s⁻¹ (AA (·++vs.toArray))).push (seqObj "list" vs.toArray 0)};rw[hsz];generalize hA:((s.heap.push (seqObj "list" #[] 0)).update s⁻¹ (AA (·++vs.toArray))).push (seqObj "list" vs.toArray 0)=d at g keep ⊢;have I1:Inv X aa σ H {s with heap:=d}:=I.kept (t':=s.toks) keep;have S:bm X aa H (s⁻¹+1):=I.fpOk (Nat.le_succ _) (I.hok.fresh (Nat.le_succ _));generalize hD:s⁻¹+1=D at g S ⊢;have re:D<d.objs.size:=Ar g;refine Ab (AM (wpAny_call_entry_kw slot_list_sort ⟨_,g,rfl⟩ entry_list_sort ?body (ksk_l1 _ _)))
 case body=>
  show wpAny (model X.prog X.w) X.A.in1.in1 (Builtin.«list.sort» ⟨[.ref D],[(Str.ofString "key",.ref f)]⟩) _ _ _;rw[ksk_t1];unfold ksk_tree;refine Ab (listItems_at g rfl ?_);refine Ab (listUpdate_at g rfl ?_ (by rw[Aj];exact P) (AL _));obtain⟨e1,cw⟩:∃e1,(d.update D (AA fun _=>(#[]:Array Value))).get? D=some (seqObj "list" #[] e1):=⟨_,get?_update_seq g fun _=>#[]⟩;refine Ab (seqEpoch_at cw rfl ?_);refine Ab (wpAny_newTuple ?_ (by show vs.length<=_;exact P));refine Ab (wpAny_newList ?_ (AL _));refine AM ?_;have I2:Inv X aa σ H {s with heap:=d.update D (AA fun _=>(#[]:Array Value))}:=
   Inv.turneds (s:={s with heap:=d}) (t':=s.toks) (ch:=[D]) I1 (iS S) fun b o hb q=>by rw[Heap.get?_update_ne _ _ _ _ (fun z=>hb (by simp[z]))];exact q
  have I3:Inv X aa σ H {s with heap:=((d.update D (AA fun _=>(#[]:Array Value))).push (seqObj "tuple" vs.toArray 0))}:=I2.kept (t':=s.toks) fun b u q=>Ad _ q;have kQ:bm X aa H ((d.update D (AA fun _=>(#[]:Array Value))).push (seqObj "tuple" vs.toArray 0)).objs.size:=I3.fpOk (Ag _) (I3.hok.fresh (Ag _));have pT:((d.update D (AA fun _=>(#[]:Array Value))).push (seqObj "tuple" vs.toArray 0)).objs.size≠D:=by
   rw[size_push',Heap.size_update];omega
  have I4:Inv X aa σ H {s with heap:=(((d.update D (AA fun _=>(#[]:Array Value))).push (seqObj "tuple" vs.toArray 0)).push (seqObj "list" #[] 0))}:=I3.kept (t':=s.toks) fun b u q=>Ad _ q;have ug:(((d.update D (AA fun _=>(#[]:Array Value))).push (seqObj "tuple" vs.toArray 0)).push (seqObj "list" #[] 0)).get? ((d.update D (AA fun _=>(#[]:Array Value))).push (seqObj "tuple" vs.toArray 0)).objs.size=some (seqObj "list" #[] 0):=Ao _ rfl;have aR:(((d.update D (AA fun _=>(#[]:Array Value))).push (seqObj "tuple" vs.toArray 0)).push (seqObj "list" #[] 0)).get? D=some (seqObj "list" #[] e1):=Ad _ (Ad _ cw);show wpAny (model X.prog X.w) X.A.in1.in1 (ksk_rest D (.ref f) false vs.toArray e1 (.ref ((d.update D (AA fun _=>(#[]:Array Value))).push (seqObj "tuple" vs.toArray 0)).objs.size)) _ _ {s with heap:=((d.update D (AA fun _=>(#[]:Array Value))).push (seqObj "tuple" vs.toArray 0)).push (seqObj "list" #[] 0)};generalize ((d.update D (AA fun _=>(#[]:Array Value))).push (seqObj "tuple" vs.toArray 0)).objs.size=kS at *;generalize ((d.update D (AA fun _=>(#[]:Array Value))).push (seqObj "tuple" vs.toArray 0)).push (seqObj "list" #[] 0)=oJ at *;unfold ksk_rest;refine Ab (wpAny_rule ?_)
  first
   |rw[List.forIn_toArray]
   |(rw[<-Array.forIn_toList];simp only[List.toList_toArray])
  refine Ab (ksk_fold (fun i s'=>∃y E e ks,Inv X aa σ y s'/\Same H y/\y D=none/\y kS=none/\s'.heap.get? kS=some (seqObj "list" E e)/\s'.heap.get? D=some (seqObj "list" #[] e1)/\E.toList=ks.map Value.ref/\ks.length=i/\
    ∀(j:Nat) p,ks[j]?=some p->∃a ps,as[j]?=some a/\pss[j]?=some ps/\y p=some (.tup [.int ps.length,.ref a])) vs 0 _
   ⟨H,#[],0,[],I4,Same.refl H,S.1,kQ.1,ug,aR,rfl,rfl,fun j p e=>by simp at e⟩ ?step ?done)
  case step=>
   rintro j v s' hv ⟨y,E,e,ks,Ik,N,O,T,U,na,kP,J,eZ⟩;simp only[Nat.zero_add] at J ⊢;have eO:j<as.length:=by rw[<-pY];exact(List.getElem?_eq_some_iff.mp hv).1
   have Y:as[j]?=some as[j]:=Ae eO;obtain⟨ps,aH,aN⟩:=ht.get Y;have ev:v=.ref as[j]:=by
    rw[<-hvs,Ak,Y] at hv;exact(Am hv).symm
   subst ev;refine Ab (wpAny_attempt (wpAny_call (codeAny_mono (F.run X.A.in1.in1 X.stack s' y ⟨[.ref as[j]],[]⟩ [.ref as[j]] [.ref as[j]] (fun v H'=>∃p,v=.ref p/\y p=none/\H'=upd y p (.tup [.int ps.length,.ref as[j]])) E0
    (Room.in1 (Room.in1 hr)) Ik.env0.in1.in1 (hb s' [.ref as[j]] Ik.kIn rfl) (.cons rfl .nil) ⟨as[j],ps,rfl,N.tp aN,fun p hp=>⟨p,rfl,hp,rfl⟩⟩) fun r M hq=>?_)))
   cases r with
   |error e=>exact False.elim hq
   |ok fl=>
    cases fl with
    |next=>exact False.elim hq
    |brk=>exact False.elim hq
    |cont=>exact False.elim hq
    |ret u=>
     obtain⟨v,H',os,W,un,hok,ru,p,rfl,hp,rfl⟩:=hq;cases ru;have I5:Inv X aa σ (upd y p (.tup [.int ps.length,.ref as[j]])) M:=Ik.call' os un hok W (fun b z=>nomatch z);have fD:=nf S O;have fK:=nf kQ T;have rG:=un.keep D _ na O (CG Ik fD) (by simp);have oQ:=un.keep kS _ U T (CG Ik fK) (by simp);have eK:=un.free D _ na O (by simp);have o8:=un.free kS _ U T (by simp)
     try dsimp only
     have hkz:E.size=j:=by rw[<-A1,kP,Aa,J]
     obtain⟨c2,bA⟩:∃c2,(M.heap.update kS (AA (·.push (.ref p)))).get? kS=some (seqObj "list" (E.push (.ref p)) c2):=⟨_,get?_update_seq oQ (·.push (.ref p))⟩;have s1:=AO M.heap kS (AA (·.push (.ref p)));have tM:=nf kQ o8;have I6:Inv X aa σ (upd y p (.tup [.int ps.length,.ref as[j]])) {M with heap:=M.heap.update kS (AA (·.push (.ref p)))}:=
      I5.turneds (t':=M.toks) (ch:=[kS]) (iS tM) fun b o hb q=>(s1.2 b (fun z=>hb (by simp[z]))).trans q
     refine Ab (listUpdate_at oQ rfl ?_ ω (AD (Nat.le_of_eq (Array.size_push ..)) ω));refine Ac ⟨rfl,_,E.push (.ref p),c2,ks++[p],I6,N.then (by exact N.free hp),eK,o8,bA,(s1.2 D pT.symm).trans rG,by rw[Array.toList_push,kP,Ah];rfl,by rw[Ai,J];rfl,fun i p' G=>?_⟩
     by_cases hi:i<ks.length
     ·rw[List.getElem?_append_left hi] at G
      obtain⟨a,fS,x1,x2,x3⟩:=eZ i p' G;exact⟨a,fS,x1,x2,by rw[ab (ze x3 hp)];exact x3⟩
     ·rw[List.getElem?_append_right ω] at G
      have h0:i-ks.length=0:=by
       rcases Nat.eq_zero_or_pos (i-ks.length) with z|z
       ·exact z
       ·rw[List.getElem?_eq_none (by simp only[An,List.length_nil];omega)] at G;cases G
      rw[h0] at G;obtain rfl:p=p':=by simpa using G
      have hij:i=j:=ω
      subst hij;exact⟨_,ps,Y,aH,za⟩
  case done=>
   rintro s' ⟨y,E,e,ks,Ik,N,O,T,U,na,kP,J,eZ⟩;simp only[Nat.zero_add] at J
   try dsimp only
   refine Ab (listItems_at U rfl ?_);unfold ksk_end
   try dsimp only
   simp only[Au,if_false];have rD:E=(ks.map Value.ref).toArray:=by rw[<-kP,Array.toArray_toList]
   subst rD;have gd:∀(i:Nat) u l,(ks.map Value.ref)[i]?=some u->(pss.map fun ps=>(ps.length:Int)::ps)[i]?=some l->bD.IsPr s'.heap u l:=fun i u l h1 h2=>by
    rw[Ak] at h1 h2;cases ek:ks[i]? with
    |none=>rw[ek] at h1;simp at h1
    |some p=>
     obtain⟨a,ps,x1,x2,x3⟩:=eZ i p ek;rw[ek] at h1;rw[x2] at h2;obtain rfl:=Am h1;obtain rfl:=Am h2;obtain⟨fS,y1,y2⟩:=ht.get x1;rw[x2] at y1;obtain rfl:=Am y1;exact jB Ik ⟨_,a,ps,rfl,x3,N.tp y2⟩
   refine bD.Ca (us:=ks.map Value.ref) (vs:=vs) (ls:=pss.map fun ps=>(ps.length:Int)::ps) (good:=fun h=>h=s'.heap) (bD.B' (by rw[Aa,Aa,J,pY];exact aw) (CF hu) ⟨_,rfl⟩ (by rintro h rfl;exact gd)) (by rw[Aa,J]) ω rfl fun aj ho hst hf=>?_;refine bD.Hv (ls:=pss.map fun ps=>(ps.length:Int)::ps) (vs:=vs) U na pT (by rw[Aj,Aa];omega) ho hst P hf fun h' bG c kk km wP lW qQ=>⟨_,rfl,?_⟩;refine Ac ⟨_,rfl,?_⟩;obtain⟨ps,je,gQ,hs⟩:=lW;subst hvs;have I7:Inv X aa σ y {s' with heap:=h'}:=Ik.turneds (t':=s'.toks) (ch:=[kS,D]) (fun b hb=>by
     simp only[List.mem_cons,List.not_mem_nil,or_false] at hb;rcases hb with rfl|rfl
     ·exact nf kQ T
     ·exact nf S O) fun b o hb q=>kk b o (fun z=>hb (by simp[z])) (fun z=>hb (by simp[z])) q
   have all:∀p∈ps,∃a C,p.2=Value.ref a/\p.1=((C:List Int).length:Int)::C:=fun p bP=>by
    obtain⟨h1,h2⟩:=List.of_mem_zip (je.mem_iff.mp bP:(p.1,p.2)∈_);obtain⟨a,_,Y⟩:=List.mem_map.mp h2;obtain⟨C,_,eq⟩:=List.mem_map.mp h1;exact⟨a,C,Y.symm,eq.symm⟩
   have pm:(ps.map fun p=>(p.1.tail,addrOf p.2)).Perm (pss.zip as):=by
    have h1:=je.map (fun p:List Int×Value=>(p.1.tail,addrOf p.2));have e:((pss.map fun ps=>(ps.length:Int)::ps).zip (as.map Value.ref)).map (fun p:List Int×Value=>(p.1.tail,addrOf p.2))=pss.zip as:=by
     rw[List.zip_map,Ap];exact(AJ fun p _=>rfl).trans (List.map_id' _)
    rw[e] at h1;exact h1
   have ex:bG.toList=((ps.map fun p=>(p.1.tail,addrOf p.2)).map fun q=>Value.ref q.2):=by
    rw[gQ,Ap];refine AJ fun p bP=>?_;obtain⟨a,C,e1,_⟩:=all p bP;show p.2=Value.ref (addrOf p.2);rw[e1];rfl
   have vv:Vals ((ps.map fun p=>(p.1.tail,addrOf p.2)).map fun q=>V.ref q.2) bG.toList:=by
    rw[ex];exact wO (fun q:List Int×Addr=>q.2) _
   obtain⟨f0,f1,f2,f3,f4,f5⟩:=S;have ui:X.s₀⁻¹<=D:=by rw[<-hD];exact AD I.sz (Nat.le_succ _)
   have I8:Inv X aa σ (upd y D (.lst ((ps.map fun p=>(p.1.tail,addrOf p.2)).map fun q=>V.ref q.2))) {s' with heap:=h'}:=by
    refine I7.adopt O ui f1 f4 f5 ⟨?_,bG.toList,c,vv,?_⟩
    ·rw[Aa,pm.length_eq,List.length_zip];omega
    ·simpa using km
   refine h D _ _ _ I8 (N.then f0) f0 za pm ?_;rw[A2];refine hs.imp_of_mem fun{p q} h1 h2 h3=>?_;obtain⟨_,C,_,e1⟩:=all p h1;obtain⟨_,pP,_,e2⟩:=all q h2;rw[e1,e2] at h3;rw[e1,e2];exact h3
end
section
variable{X:Cx}{a:Expr}{ta:TA}{p p2 pos fh:Pos}{k:Nat}{f:Addr}{fd:FuncData}{x y:Str}
def Ib(K:Af)(ta:TA):TE:=fun σ H Q=>ta σ H fun vs H1=>∃(l:Addr)(as:List Addr)(pss:Ξ),vs=[.ref l]/\SqL K H1 l (as.map V.ref)/\Tps H1 as pss/\pss.length<64/\
 ∀D H2(c:List (List Int×Addr)),Same H1 H2->H1 D=none->H2 D=some (.lst (c.map fun q=>V.ref q.2))->c.Perm (pss.zip as)->c.Pairwise (fun a b=>HT.lexLt ((b.1.length:Int)::b.1) ((a.1.length:Int)::a.1)=false)->Q (.ref D) H2
def Ie(F:FnOk X.prog X.w X.K X.mg X.base aJ k f fd [x] qa)(hr:Room (k+2) X.A)(hb:Binds X.K fd [x] [])(z:Gl X "sorted")(hm:X.mg "sorted"=none)(C:A5 "sorted"=some (.builtin "sorted"))(E:Gl X y)(G:X.mg y=some (.ref f))(J:PA X [a] ta)(L:(y==("__debug__":Str))=false:=by decide)(he:starEach [a] X.env=[(false,eval a X.env)]:=by rfl):PE X (.Call (.Name "sorted" p) [a] [⟨some "key",.Name y p2,fh⟩] pos) (Ib X.K ta):=by
 intro aa s σ H Q I h;refine wpAny_Call_Name_kw (jg I z hm C ?_);refine callWith_kw ?_ (by rw[he];rfl) (by rw[he];rfl) rfl rfl;refine aP (J pos aa s σ H _ I h) fun us c ⟨vs,H1,b,d,e⟩=>?_;obtain⟨l,as,pss,rfl,hl,o,r,q⟩:=e;obtain⟨u,rfl,v⟩:=vals1 d;cases v;refine kws_cons (tI b E G (kws_nil ?_) L);show wpAny (model X.prog X.w) X.A (call (.builtin "sorted") [.ref l] [(Str.ofString "key",.ref f)]) _ _ c;exact Ia F hr hb b hl o r fun D H' g s' M sm i j hp hs=>⟨.ref D,H',M,rfl,q D H' g sm i j hp hs⟩
end
end L2
end
section
namespace STb
open PySem PySem.SetTable
def Ris(xs:Array Nat):Prop:=∀(i j a b:Nat),xs[i]?=some a->xs[j]?=some b->i<j->a<b
def Ris.inj{xs:Array Nat}(h:Ris xs){i j a:Nat}(h1:xs[i]?=some a)(h2:xs[j]?=some a):i=j:=by
 rcases Nat.lt_trichotomy i j with q|q|q
 ·exact absurd (h i j a a h1 h2 q) (Nat.lt_irrefl _)
 ·exact q
 ·exact absurd (h j i a a h2 h1 q) (Nat.lt_irrefl _)
def w5{xs:Array Nat}{j:Nat}(hr:Ris xs):∀(fuel lo hi:Nat),hi-lo<=fuel->lo<=hi->hi<=xs.size->(∀i a,xs[i]?=some a->i<lo->a<j)->(∀i a,xs[i]?=some a->hi<=i->j<=a)->
  below.go xs j fuel lo hi<=xs.size/\(∀i a,xs[i]?=some a->i<below.go xs j fuel lo hi->a<j)/\(∀i a,xs[i]?=some a->below.go xs j fuel lo hi<=i->j<=a)
 |0,lo,hi,h0,h1,h2,h3,h4=>by
  have e:lo=hi:=ω
  subst e;exact⟨h2,h3,h4⟩
 |fuel+1,lo,hi,h0,h1,h2,h3,h4=>by
  have d:below.go xs j (fuel+1) lo hi=if lo<hi then(if xs.getD ((lo+hi) / 2) j<j then below.go xs j fuel ((lo+hi) / 2+1) hi else below.go xs j fuel lo ((lo+hi) / 2)) else lo:=rfl;rw[d]
  by_cases c:lo<hi
  ·rw[if_pos c]
   have hm:(lo+hi) / 2<xs.size:=ω
   have em:xs[(lo+hi) / 2]?=some xs[(lo+hi) / 2]:=getElem?_pos xs _ hm;have f:xs.getD ((lo+hi) / 2) j=xs[(lo+hi) / 2]:=by simp[Array.getD,hm]
   rw[f]
   by_cases hc:xs[(lo+hi) / 2]<j
   ·rw[if_pos hc]
    refine w5 hr fuel _ _ ω ω h2 (fun i a e b=>?_) h4;rcases Nat.lt_or_eq_of_le (Nat.lt_succ_iff.mp b) with q|q
    ·exact Nat.lt_trans (hr _ _ _ _ e em q) hc
    ·subst q;rw[em] at e;cases e;exact hc
   ·rw[if_neg hc]
    refine w5 hr fuel _ _ ω ω ω h3 (fun i a e b=>?_);rcases Nat.lt_or_eq_of_le b with q|q
    ·have:=hr _ _ _ _ em e q
     omega
    ·subst q;rw[em] at e;cases e;omega
  ·rw[if_neg c]
   have e:lo=hi:=ω
   subst e;exact⟨h2,h3,h4⟩
def w_{xs:Array Nat}(hr:Ris xs)(j:Nat):below xs j<=xs.size/\(∀i a,xs[i]?=some a->i<below xs j->a<j)/\(∀i a,xs[i]?=some a->below xs j<=i->j<=a):=
 w5 hr xs.size 0 xs.size ω ω (Ag _) (fun _ _ _ h=>absurd h (Nat.not_lt_zero _)) (fun i a e h=>by have:=(Array.getElem?_eq_some_iff.mp e).1;omega)
def below_at{xs:Array Nat}(hr:Ris xs){i j:Nat}(e:xs[i]?=some j):below xs j=i:=by
 obtain⟨h1,h2,h3⟩:=w_ hr j;rcases Nat.lt_trichotomy (below xs j) i with q|q|q
 ·have hb:below xs j<xs.size:=Nat.lt_trans q (Array.getElem?_eq_some_iff.mp e).1
  have e2:=getElem?_pos xs (below xs j) hb;have a:=h3 _ _ e2 (Ag _);have b:=hr _ _ _ _ e2 e q;omega
 ·exact q
 ·exact absurd (h2 i j e q) (Nat.lt_irrefl _)
def eS{a:Type}(xs:Array a)(p:Nat)(x:a)(hp:p<=xs.size)(i:Nat):(insertAt xs p x)[i]?=if i<p then xs[i]? else if i=p then some x else xs[i-1]?:=by
 unfold insertAt;have hs:((xs.extract 0 p).push x).size=p+1:=by rw[Array.size_push,Array.size_extract];omega
 by_cases h1:i<p
 ·rw[if_pos h1,Array.getElem?_append_left ω,Array.getElem?_push_lt (by rw[Array.size_extract];omega)]
  simp[Array.getElem_extract,h1]
 ·rw[if_neg h1]
  by_cases h2:i=p
  ·subst h2
   rw[if_pos rfl,Array.getElem?_append_left ω];have e:(xs.extract 0 i).size=i:=by rw[Array.size_extract];omega
   have:=Array.getElem?_push_size (xs:=xs.extract 0 i) (x:=x);rw[e] at this;exact this
  ·rw[if_neg h2,Array.getElem?_append_right ω,hs,Array.getElem?_extract]
   by_cases h3:i-(p+1)<xs.size-p
   ·rw[if_pos ω]
    congr 1
    omega
   ·rw[if_neg ω]
    exact(Array.getElem?_eq_none ω).symm
def qb{a:Type}(xs:Array a)(p:Nat)(x:a)(hp:p<=xs.size):(insertAt xs p x).size=xs.size+1:=by
 unfold insertAt;rw[Array.size_append,Array.size_push,Array.size_extract,Array.size_extract];omega
def Ig{xs:Array Nat}(hr:Ris xs){j:Nat}(hn:∀i:Nat,xs[i]?≠some j):Ris (insertAt xs (below xs j) j):=by
 obtain⟨h1,h2,h3⟩:=w_ hr j;intro a b x y d c l;rw[eS _ _ _ h1] at d c
 by_cases e:a<below xs j
 ·rw[if_pos e] at d
  by_cases f:b<below xs j
  ·rw[if_pos f] at c;exact hr _ _ _ _ d c l
  ·rw[if_neg f] at c
   by_cases g:b=below xs j
   ·rw[if_pos g] at c;cases c;exact h2 _ _ d e
   ·rw[if_neg g] at c;exact hr _ _ _ _ d c ω
 ·rw[if_neg e] at d
  rw[if_neg ω] at c
  by_cases h:a=below xs j
  ·rw[if_pos h] at d;cases d
   rw[if_neg ω] at c;have:=h3 _ _ c ω;rcases Nat.lt_or_eq_of_le this with q|q
   ·exact q
   ·subst q;exact absurd c (hn _)
  ·rw[if_neg h] at d
   rw[if_neg ω] at c;exact hr _ _ _ _ d c ω
def e8(mask:Nat)(p:Probe):Probe:=
 if p.more>0 then {p with j:=p.j+1,more:=p.more-1} else
 {p with j:=(leap mask p.i p.perturb).1,more:=runEnd mask (leap mask p.i p.perturb).1-(leap mask p.i p.perturb).1,i:=(leap mask p.i p.perturb).1,perturb:=(leap mask p.i p.perturb).2}
def first(mask:Nat)(h:Int):Probe:={j:=bits h%(mask+1),more:=runEnd mask (bits h%(mask+1))-bits h%(mask+1),i:=bits h%(mask+1),perturb:=bits h,dummy:=none}
def pr(mask:Nat)(h:Int):Nat->Probe
 |0=>first mask h
 |n+1=>e8 mask (pr mask h n)
def pos(mask:Nat)(h:Int)(n:Nat):Nat:=(pr mask h n).j
def CH(mask:Nat)(h:Int):∀n,(pr mask h n).dummy=none
 |0=>rfl
 |n+1=>by
  show(e8 mask (pr mask h n)).dummy=none;unfold e8;split<;>exact CH mask h n
def lp(mask:Nat)(h:Int):Nat->Nat×Nat
 |0=>(bits h%(mask+1),bits h)
 |r+1=>leap mask (lp mask h r).1 (lp mask h r).2
def Ih(mask i:Nat):runEnd mask i-i<=9:=by unfold runEnd;split<;>omega
def qd(mask:Nat)(h:Int){n r:Nat}(e:pr mask h n={j:=(lp mask h r).1,more:=runEnd mask (lp mask h r).1-(lp mask h r).1,i:=(lp mask h r).1,perturb:=(lp mask h r).2,dummy:=none}):∀k,k<=runEnd mask (lp mask h r).1-(lp mask h r).1->pr mask h (n+k)={j:=(lp mask h r).1+k,more:=runEnd mask (lp mask h r).1-(lp mask h r).1-k,i:=(lp mask h r).1,perturb:=(lp mask h r).2,dummy:=none}
 |0,_=>e
 |k+1,hk=>by
  have a:=qd mask h e k ω;show e8 mask (pr mask h (n+k))=_;rw[a];unfold e8;rw[if_pos (by show runEnd mask (lp mask h r).1-(lp mask h r).1-k>0;omega)]
  congr 1
def CI(mask:Nat)(h:Int):∀r,∃n,n<=10*r/\pr mask h n={j:=(lp mask h r).1,more:=runEnd mask (lp mask h r).1-(lp mask h r).1,i:=(lp mask h r).1,perturb:=(lp mask h r).2,dummy:=none}
 |0=>⟨0,Ag _,rfl⟩
 |r+1=>by
  obtain⟨n,hn,e⟩:=CI mask h r;have hl:=Ih mask (lp mask h r).1;refine⟨n+(runEnd mask (lp mask h r).1-(lp mask h r).1)+1,ω,?_⟩;show e8 mask (pr mask h (n+(runEnd mask (lp mask h r).1-(lp mask h r).1)))=_;rw[qd mask h e _ (Ag _)];unfold e8;rw[if_neg (by show ¬(runEnd mask (lp mask h r).1-(lp mask h r).1-(runEnd mask (lp mask h r).1-(lp mask h r).1)>0);omega)]
  rfl
def Ii(h:Int):bits h<2 ^ 64:=by
 unfold bits;have h1:(0:Int)<=h%(2 ^ 64:Int):=Int.emod_nonneg _ ξ;have h2:h%(2 ^ 64:Int)<2 ^ 64:=Int.emod_lt_of_pos _ ξ;omega
def CJ(mask:Nat)(h:Int):∀r,(lp mask h r).2=bits h / 32 ^ r
 |0=>by simp[lp]
 |r+1=>by
  show(lp mask h r).2 / 32=_;rw[CJ mask h r,Nat.div_div_eq_div_mul,Nat.pow_succ]
def Il(mask:Nat)(h:Int){r:Nat}(hr:13<=r):(lp mask h r).2=0:=by
 rw[CJ];have h1:=Ii h;have h2:32 ^ 13<=32 ^ r:=Nat.pow_le_pow_right ξ hr;exact Nat.div_eq_of_lt (AC h1 (AD ξ h2))
def CK(mask:Nat)(h:Int):∀r,(lp mask h r).1<=mask
 |0=>Nat.lt_succ_iff.mp (Nat.mod_lt _ (Nat.succ_pos _))
 |r+1=>Nat.lt_succ_iff.mp (Nat.mod_lt _ (Nat.succ_pos _))
def f5(mask x:Nat):Nat:=(x*5+1)%(mask+1)
def eA(mask:Nat):Nat->Nat->Nat
 |0,x=>x
 |k+1,x=>f5 mask (eA mask k x)
def xb(mask:Nat)(h:Int):∀k,(lp mask h (13+k)).1=eA mask k (lp mask h 13).1
 |0=>rfl
 |k+1=>by
  show((lp mask h (13+k)).1*5+1+(lp mask h (13+k)).2 / 32)%(mask+1)=f5 mask (eA mask k (lp mask h 13).1);rw[Il mask h ω,xb mask h k]
  rfl
def e_(mask:Nat):Prop:=∀i s,i<=mask->s<=mask->∃k,k<=mask/\eA mask k i=s
def k8(mask:Nat):Nat->Nat->List Nat
 |0,_=>[]
 |n+1,x=>x::k8 mask n (f5 mask x)
def CL(mask:Nat):∀(n x k:Nat),k<n->(k8 mask n x)[k]?=some (eA mask k x)
 |0,_,_,h=>absurd h (Nat.not_lt_zero _)
 |n+1,x,0,_=>rfl
 |n+1,x,k+1,h=>by
  have a:=CL mask n (f5 mask x) k ω;show(k8 mask n (f5 mask x))[k]?=_;rw[a]
  congr 1
  have b:∀k x,eA mask k (f5 mask x)=f5 mask (eA mask k x):=by
   intro k
   induction k with
   |zero=>intro x;rfl
   |succ k a=>intro x;show f5 mask (eA mask k (f5 mask x))=_;rw[a];rfl
  exact b k x
def xi(mask:Nat):∀n x,(k8 mask n x).length=n
 |0,_=>rfl
 |n+1,x=>by show(k8 mask n (f5 mask x)).length+1=_;rw[xi mask n]
def qe(mask:Nat):∀(a b x:Nat),eA mask (a+b) x=eA mask a (eA mask b x)
 |0,b,x=>by rw[Nat.zero_add];rfl
 |a+1,b,x=>by
  rw[Nat.add_right_comm];show f5 mask (eA mask (a+b) x)=_;rw[qe mask a b x]
  rfl
def ng{mask:Nat}(h:((AB (mask+1)).all fun s=>(k8 mask (mask+1) 0).contains s)=true)(hp:eA mask (mask+1) 0=0):e_ mask:=by
 have all:∀s,s<=mask->∃k,k<=mask/\eA mask k 0=s:=fun s hs=>by
  have h2:=List.all_eq_true.mp h s (List.mem_range.mpr ω);obtain⟨k,hk,e⟩:=List.mem_iff_getElem.mp (List.contains_iff_mem.mp h2);rw[xi] at hk;refine⟨k,ω,?_⟩;have e2:=CL mask (mask+1) 0 k hk;rw[Ae (by rw[xi];exact hk),e] at e2;exact(Am e2).symm
 intro i s hi hs;obtain⟨a,f,c⟩:=all i hi;obtain⟨b,hb,d⟩:=all s hs;rcases Nat.lt_or_ge b a with q|q
 ·refine⟨mask+1-a+b,ω,?_⟩
  rw[<-c,<-qe,show mask+1-a+b+a=b+(mask+1) from ω,qe,hp,d]
 ·refine⟨b-a,ω,?_⟩
  rw[<-c,<-qe,show b-a+a=b from ω,d]
def xj:e_ 7:=ng δ δ
def ni:e_ 31:=ng δ δ
def nr:e_ 63:=ng δ δ
def jC:e_ 255:=ng δ δ
def jE:e_ 127:=ng δ δ
def nt{mask:Nat}(hc:e_ mask)(h:Int){x:Nat}(hx:x<=mask):∃n,n<10*turns mask/\pos mask h n=x:=by
 obtain⟨k,hk,e⟩:=hc (lp mask h 13).1 x (CK mask h 13) hx;obtain⟨n,hn,e2⟩:=CI mask h (13+k);refine⟨n,by unfold turns;omega,?_⟩;show(pr mask h n).j=x;rw[e2];show(lp mask h (13+k)).1=x;rw[xb,e]
def dZ(mask:Nat)(h:Int)(n:Nat):pos mask h n<=mask:=by
 have key:∀n,(pr mask h n).i<=mask/\(pr mask h n).j+(pr mask h n).more<=mask:=by
  intro n;have a:∀i,i<=mask->i+(runEnd mask i-i)<=mask:=fun i hi=>by unfold runEnd;split<;>omega
  induction n with
  |zero=>
   have q:bits h%(mask+1)<=mask:=Nat.lt_succ_iff.mp (Nat.mod_lt _ (Nat.succ_pos _));exact⟨q,a _ q⟩
  |succ n ih=>
   show(e8 mask (pr mask h n)).i<=mask/\(e8 mask (pr mask h n)).j+(e8 mask (pr mask h n)).more<=mask;unfold e8;split
   ·exact⟨ih.1,by show(pr mask h n).j+1+((pr mask h n).more-1)<=mask;omega⟩
   ·have q:(leap mask (pr mask h n).i (pr mask h n).perturb).1<=mask:=Nat.lt_succ_iff.mp (Nat.mod_lt _ (Nat.succ_pos _))
    exact⟨q,a _ q⟩
 have:=(key n).2;unfold pos;omega
structure Tb(t:SetTable)(hs:Array Int):Prop where
 ris:Ris t.place
 dum:t.dummies=#[]
 size:t.place.size=hs.size
 le:∀(i j:Nat),t.place[i]?=some j->j<=t.mask
 cov:e_ t.mask
 odd:t.mask%2=1
 room:hs.size<=t.mask
 path:∀(k j:Nat)(h:Int),hs[k]?=some h->t.place[k]?=some j->∃n,pos t.mask h n=j/\∀m,m<n->∃k':Nat,t.place[k']?=some (pos t.mask h m)
def eB(t:SetTable)(j:Nat):Prop:=∃i:Nat,t.place[i]?=some j
section
variable{t:SetTable}{hs:Array Int}
def k9(T:Tb t hs){i j:Nat}(e:t.place[i]?=some j):t.slot j=.live i:=by
 show(if(t.place[below t.place j]?==some j)=true then Slot.live (below t.place j) else _)=_;rw[below_at T.ris e,e,if_pos (by simp)]
def Im(T:Tb t hs){j:Nat}(e:¬eB t j):t.slot j=.empty:=by
 show(if(t.place[below t.place j]?==some j)=true then Slot.live (below t.place j) else if has t.dummies j=true then Slot.dummy else Slot.empty)=_;have h1:¬(t.place[below t.place j]?==some j)=true:=by
  intro q;exact e ⟨_,eq_of_beq q⟩
 have h2:has t.dummies j=false:=by
  unfold has;rw[T.dum]
  rfl
 rw[if_neg h1,h2]
 rfl
def Io(T:Tb t hs):∃x,x<=t.mask/\¬eB t x:=by
 apply Classical.byContradiction;intro hn;have all:∀x,x<=t.mask->eB t x:=fun x hx=>Classical.byContradiction fun q=>hn ⟨x,hx,q⟩;have sub:AB (t.mask+1) ⊆ t.place.toList:=fun x hx=>by
  obtain⟨i,e⟩:=all x (Nat.lt_succ_iff.mp (List.mem_range.mp hx));rw[<-AR] at e;exact Al e
 have:=(List.nodup_range (n:=t.mask+1)).length_le_of_subset sub;rw[List.length_range,A1,T.size] at this;have:=T.room;omega
def least{P:Nat->Prop}(n:Nat)(h:P n):∃m,m<=n/\P m/\∀k,k<m->¬P k:=by
 induction n using Nat.strongRecOn with
 |ind n ih=>
  by_cases q:∃k,k<n/\P k
  ·obtain⟨k,hk,a⟩:=q
   obtain⟨m,h1,h2,h3⟩:=ih k hk a;exact⟨m,ω,h2,h3⟩
  ·exact⟨n,Ag _,h,fun k hk a=>q ⟨k,hk,a⟩⟩
def Ip(T:Tb t hs)(h:Int):∃ne,ne<10*turns t.mask/\¬eB t (pos t.mask h ne)/\∀m,m<ne->eB t (pos t.mask h m):=by
 obtain⟨x,hx,fx⟩:=Io T;obtain⟨n,hn,e⟩:=nt T.cov h hx;obtain⟨m,h1,h2,h3⟩:=least (P:=fun m=>¬eB t (pos t.mask h m)) n (by rw[e];exact fx);exact⟨m,ω,h2,fun k hk=>Classical.byContradiction fun q=>h3 k hk q⟩
def xt(T:Tb t hs){hashAt:Nat->Int}{h:Int}:∀(d fuel n:Nat),(∀m,n<=m->m<n+d->∃i:Nat,t.place[i]?=some (pos t.mask h m)/\hashAt i≠h)->probe.go t hashAt h (fuel+d) (pr t.mask h n)=probe.go t hashAt h fuel (pr t.mask h (n+d))
 |0,fuel,n,_=>rfl
 |d+1,fuel,n,hm=>by
  obtain⟨i,e1,e2⟩:=hm n (Ag _) ω;have es:t.slot (pr t.mask h n).j=.live i:=k9 T e1;have a:=xt T d fuel (n+1) (fun m h1 h2=>hm m ω ω);rw[show fuel+(d+1)=(fuel+d)+1 from ω,show n+(d+1)=n+1+d from ω,<-a];show(match t.slot (pr t.mask h n).j with
   |.empty=>some (Met.empty (pr t.mask h n).j (pr t.mask h n).dummy)
   |.dummy=>probe.go t hashAt h (fuel+d) (t.advance {(pr t.mask h n) with dummy:=some (pr t.mask h n).j})
   |.live i=>if hashAt i==h then some (Met.candidate (pr t.mask h n).j i (t.advance (pr t.mask h n))) else probe.go t hashAt h (fuel+d) (t.advance (pr t.mask h n)))=_
  rw[es];dsimp only;rw[if_neg (by simpa using e2)]
  rfl
def probe_spec(T:Tb t hs){hashAt:Nat->Int}{h:Int}{ne n:Nat}(s:ne<10*turns t.mask)(he:¬eB t (pos t.mask h ne))(hm:∀m,m<ne->eB t (pos t.mask h m))(hn:n<=ne):(t.probe hashAt h (pr t.mask h n)=some (.empty (pos t.mask h ne) none)/\∀m i,n<=m->m<ne->t.place[i]?=some (pos t.mask h m)->hashAt i≠h) \/
  ∃(N i:Nat),n<=N/\N<ne/\t.place[i]?=some (pos t.mask h N)/\hashAt i=h/\t.probe hashAt h (pr t.mask h n)=some (.candidate (pos t.mask h N) i (pr t.mask h (N+1)))/\∀m f,n<=m->m<N->t.place[f]?=some (pos t.mask h m)->hashAt f≠h:=by
 by_cases q:∃N,n<=N/\N<ne/\∃i:Nat,t.place[i]?=some (pos t.mask h N)/\hashAt i=h
 ·right
  obtain⟨o,p⟩:=q;obtain⟨N,h1,⟨h2,h3,i,l,h5⟩,r⟩:=least (P:=fun N=>n<=N/\N<ne/\∃i:Nat,t.place[i]?=some (pos t.mask h N)/\hashAt i=h) o p;have g:∀m f,n<=m->m<N->t.place[f]?=some (pos t.mask h m)->hashAt f≠h:=fun m f a b c d=>r m b ⟨a,ω,f,c,d⟩;refine⟨N,i,h2,h3,l,h5,?_,g⟩;obtain⟨fuel,hf⟩:∃fuel,10*turns t.mask=(fuel+1)+(N-n):=⟨10*turns t.mask-(N-n)-1,ω⟩;unfold SetTable.probe;rw[hf,xt T (N-n) (fuel+1) n (fun m a b=>?_),show n+(N-n)=N from ω]
  ·show(match t.slot (pr t.mask h N).j with
    |.empty=>some (Met.empty (pr t.mask h N).j (pr t.mask h N).dummy)
    |.dummy=>probe.go t hashAt h fuel (t.advance {(pr t.mask h N) with dummy:=some (pr t.mask h N).j})
    |.live i=>if hashAt i==h then some (Met.candidate (pr t.mask h N).j i (t.advance (pr t.mask h N))) else probe.go t hashAt h fuel (t.advance (pr t.mask h N)))=_
   rw[show t.slot (pr t.mask h N).j=.live i from k9 T l];dsimp only;rw[if_pos (by simpa using h5)]
   rfl
  ·obtain⟨f,e⟩:=hm m ω
   exact⟨f,e,g m f a ω e⟩
 ·left
  have g:∀m i,n<=m->m<ne->t.place[i]?=some (pos t.mask h m)->hashAt i≠h:=fun m i a b c d=>q ⟨m,a,b,i,c,d⟩;refine⟨?_,g⟩;obtain⟨fuel,hf⟩:∃fuel,10*turns t.mask=(fuel+1)+(ne-n):=⟨10*turns t.mask-(ne-n)-1,ω⟩;unfold SetTable.probe;rw[hf,xt T (ne-n) (fuel+1) n (fun m a b=>?_),show n+(ne-n)=ne from ω]
  ·show(match t.slot (pr t.mask h ne).j with
    |.empty=>some (Met.empty (pr t.mask h ne).j (pr t.mask h ne).dummy)
    |.dummy=>probe.go t hashAt h fuel (t.advance {(pr t.mask h ne) with dummy:=some (pr t.mask h ne).j})
    |.live i=>if hashAt i==h then some (Met.candidate (pr t.mask h ne).j i (t.advance (pr t.mask h ne))) else probe.go t hashAt h fuel (t.advance (pr t.mask h ne)))=_
   rw[show t.slot (pr t.mask h ne).j=.empty from Im T he];dsimp only;rw[CH]
   rfl
  ·obtain⟨f,e⟩:=hm m ω
   exact⟨f,e,g m f a ω e⟩
def Iq(T:Tb t hs){h:Int}{ne k j:Nat}(he:¬eB t (pos t.mask h ne))(hk:hs[k]?=some h)(a:t.place[k]?=some j):∃N,N<ne/\pos t.mask h N=j:=by
 obtain⟨n,e,hm⟩:=T.path k j h hk a;refine⟨n,?_,e⟩;rcases Nat.lt_trichotomy n ne with q|q|q
 ·exact q
 ·subst q;exact absurd ⟨k,by rw[e];exact a⟩ he
 ·exact absurd (hm ne q) he
def Ir(T:Tb t hs){h:Int}{ne:Nat}(he:¬eB t (pos t.mask h ne))(hm:∀m,m<ne->eB t (pos t.mask h m))(hr:hs.size+1<=t.mask):(t.put (pos t.mask h ne)).2<=hs.size/\(t.put (pos t.mask h ne)).1.mask=t.mask/\Tb (t.put (pos t.mask h ne)).1 (insertAt hs (t.put (pos t.mask h ne)).2 h):=by
 have s:∀i:Nat,t.place[i]?≠some (pos t.mask h ne):=fun i e=>he ⟨i,e⟩;obtain⟨f,u,v⟩:=w_ T.ris (pos t.mask h ne);have hb:below t.place (pos t.mask h ne)<=hs.size:=by rw[<-T.size];exact f
 have g:(t.put (pos t.mask h ne)).1.place=insertAt t.place (below t.place (pos t.mask h ne)) (pos t.mask h ne):=rfl;have mk:(t.put (pos t.mask h ne)).1.mask=t.mask:=rfl;have d:∀j,eB t j->∃r:Nat,(t.put (pos t.mask h ne)).1.place[r]?=some j:=fun j ⟨i,e⟩=>by
  by_cases q:i<below t.place (pos t.mask h ne)
  ·exact⟨i,by rw[g,eS _ _ _ f,if_pos q];exact e⟩
  ·exact⟨i+1,by rw[g,eS _ _ _ f,if_neg ω,if_neg ω,Nat.add_sub_cancel];exact e⟩
 refine⟨hb,mk,⟨?_,?_,?_,fun i j e=>?_,T.cov,T.odd,?_,fun k j h' e1 e2=>?_⟩⟩
 ·rw[g];exact Ig T.ris s
 ·show(if has t.dummies (pos t.mask h ne)=true then _ else t.dummies)=#[]
  rw[T.dum]
  rfl
 ·rw[g,qb _ _ _ f]
  show _=(insertAt hs (below t.place (pos t.mask h ne)) h).size;rw[qb _ _ _ hb,T.size]
 ·rw[g,eS _ _ _ f] at e
  rw[mk]
  by_cases o:i<below t.place (pos t.mask h ne)
  ·rw[if_pos o] at e;exact T.le _ _ e
  ·rw[if_neg o] at e
   by_cases p:i=below t.place (pos t.mask h ne)
   ·rw[if_pos p] at e;cases e;exact dZ _ _ _
   ·rw[if_neg p] at e;exact T.le _ _ e
 ·show(insertAt hs (below t.place (pos t.mask h ne)) h).size<=t.mask
  rw[qb _ _ _ hb];exact hr
 ·have c:(insertAt hs (below t.place (pos t.mask h ne)) h)[k]?=some h':=e1
  rw[eS _ _ _ hb] at c;rw[g,eS _ _ _ f] at e2;rw[mk]
  by_cases o:k<below t.place (pos t.mask h ne)
  ·rw[if_pos o] at c e2
   obtain⟨n,a,b⟩:=T.path k j h' c e2;exact⟨n,a,fun m l=>d _ (b m l)⟩
  ·rw[if_neg o] at c e2
   by_cases p:k=below t.place (pos t.mask h ne)
   ·rw[if_pos p] at c e2
    cases c;cases e2;exact⟨ne,rfl,fun m l=>d _ (hm m l)⟩
   ·rw[if_neg p] at c e2
    obtain⟨n,a,b⟩:=T.path (k-1) j h' c e2;exact⟨n,a,fun m l=>d _ (b m l)⟩
end
def Is(finger moves:Nat)(led:Bool):Tb (SetTable.fresh finger moves led) #[]:=
 ⟨fun i j a b h=>by simp[SetTable.fresh] at h,rfl,rfl,fun i j h=>by simp[SetTable.fresh] at h,xj,show 7%2=1 from rfl,show 0<=7 from AL _,fun k j h e=>by simp at e⟩
def Own(a:Array (Option Nat))(j:Nat):Prop:=∃q,a[j]?=some (some q)
def c8(mask:Nat)(h:Int):Nat->Nat
 |0=>0
 |r+1=>c8 mask h r+(runEnd mask (lp mask h r).1-(lp mask h r).1)+1
def Iu(mask:Nat)(h:Int){r R:Nat}(hr:r<=R):c8 mask h r<=c8 mask h R:=by
 induction hr with
 |refl=>exact Ag _
 |step _ ih=>exact AD ih (by show _<=c8 mask h _+_+1;omega)
def xu(mask:Nat)(h:Int):∀r,pr mask h (c8 mask h r)={j:=(lp mask h r).1,more:=runEnd mask (lp mask h r).1-(lp mask h r).1,i:=(lp mask h r).1,perturb:=(lp mask h r).2,dummy:=none}
 |0=>rfl
 |r+1=>by
  show e8 mask (pr mask h (c8 mask h r+(runEnd mask (lp mask h r).1-(lp mask h r).1)))=_;rw[qd mask h (xu mask h r) _ (Ag _)];unfold e8;rw[if_neg (by show ¬(runEnd mask (lp mask h r).1-(lp mask h r).1-(runEnd mask (lp mask h r).1-(lp mask h r).1)>0);omega)]
  rfl
def xz{a:Array (Option Nat)}{mask j:Nat}(hz:a.size=mask+1)(d:j<=mask):(a.getD j (some 0)).isNone=true↔¬Own a j:=by
 have b:j<a.size:=ω
 have e:a.getD j (some 0)=a[j]:=by simp[Array.getD,b]
 have e2:a[j]?=some a[j]:=getElem?_pos a j b;rw[e];constructor
 ·intro h ⟨q,hq⟩
  rw[e2] at hq;rw[Am hq] at h;cases h
 ·intro h
  cases c:a[j] with
  |none=>rfl
  |some q=>exact absurd ⟨q,by rw[e2,c]⟩ h
def Iv{mask:Nat}{a:Array (Option Nat)}(hz:a.size=mask+1)(h:Int){ne R:Nat}(he:¬Own a (pos mask h ne))(hm:∀m,m<ne->Own a (pos mask h m))(hR:ne<=c8 mask h R):∀(fuel r:Nat),c8 mask h r<=ne->R<r+fuel->layClean.free mask a fuel (lp mask h r).1 (lp mask h r).2=some (pos mask h ne):=by
 intro fuel
 induction fuel with
 |zero=>
  intro r h1 h2;have q:=Iu mask h (r:=R+1) (R:=r) ω;have:c8 mask h (R+1)=c8 mask h R+(runEnd mask (lp mask h R).1-(lp mask h R).1)+1:=rfl;omega
 |succ fuel ih=>
  intro r hn hr;have walk:=qd mask h (xu mask h r);have c:∀k,k<=runEnd mask (lp mask h r).1-(lp mask h r).1->pos mask h (c8 mask h r+k)=(lp mask h r).1+k:=fun k hk=>by
   unfold pos;rw[walk k hk]
  have e:(lp mask h r).1<=runEnd mask (lp mask h r).1:=by unfold runEnd;split<;>omega
  have b:∀k,k<=runEnd mask (lp mask h r).1-(lp mask h r).1->(lp mask h r).1+k<=mask:=fun k hk=>by rw[<-c k hk];exact dZ _ _ _
  show(match (AB (runEnd mask (lp mask h r).1+1-(lp mask h r).1)).find? (fun k=>(a.getD ((lp mask h r).1+k) (some 0)).isNone) with
   |some k=>some ((lp mask h r).1+k)
   |none=>layClean.free mask a fuel (leap mask (lp mask h r).1 (lp mask h r).2).1 (leap mask (lp mask h r).1 (lp mask h r).2).2)=_
  by_cases f:ne<=c8 mask h r+(runEnd mask (lp mask h r).1-(lp mask h r).1)
  ·have d:(AB (runEnd mask (lp mask h r).1+1-(lp mask h r).1)).find? (fun k=>(a.getD ((lp mask h r).1+k) (some 0)).isNone)=some (ne-c8 mask h r):=by
    rw[List.find?_range_eq_some];refine⟨?_,List.mem_range.mpr ω,fun k hk=>?_⟩
    ·show(a.getD ((lp mask h r).1+(ne-c8 mask h r)) (some 0)).isNone=true
     rw[xz hz (b _ ω),<-c _ ω,show c8 mask h r+(ne-c8 mask h r)=ne from ω];exact he
    ·have q:¬(a.getD ((lp mask h r).1+k) (some 0)).isNone=true:=by
      rw[xz hz (b _ ω),<-c k ω];exact fun z=>z (hm _ ω)
     rw[Bool.not_eq_true] at q;rw[q]
     rfl
   rw[d];dsimp only;rw[<-c _ ω,show c8 mask h r+(ne-c8 mask h r)=ne from ω]
  ·have d:(AB (runEnd mask (lp mask h r).1+1-(lp mask h r).1)).find? (fun k=>(a.getD ((lp mask h r).1+k) (some 0)).isNone)=none:=by
    rw[List.find?_eq_none];intro k hk;have hk':=List.mem_range.mp hk;rw[xz hz (b _ ω),<-c k ω];exact fun z=>z (hm _ ω)
   rw[d];dsimp only;refine ih (r+1) ?_ ω;show c8 mask h r+(runEnd mask (lp mask h r).1-(lp mask h r).1)+1<=ne;omega
structure Lay(mask:Nat)(ai:List Int)(ac:Array (Option Nat))(k:Nat):Prop where
 size:ac.size=mask+1
 all:∀q:Nat,q<k->∃j:Nat,ac[j]?=some (some q)
 back:∀j q:Nat,ac[j]?=some (some q)->q<k
 one:∀(i j q:Nat),ac[i]?=some (some q)->ac[j]?=some (some q)->i=j
 path:∀(j q:Nat)(h:Int),ac[j]?=some (some q)->ai[q]?=some h->∃n,pos mask h n=j/\∀m,m<n->Own ac (pos mask h m)
def Lay.room{mask:Nat}{h:List Int}{c:Array (Option Nat)}{k:Nat}(L:Lay mask h c k)(hk:k<=mask):∃x,x<=mask/\¬Own c x:=by
 apply Classical.byContradiction;intro hn;have all:∀x,x<=mask->∃q,q<k/\c[x]?=some (some q):=fun x hx=>by
  have:Own c x:=Classical.byContradiction fun q=>hn ⟨x,hx,q⟩;obtain⟨q,e⟩:=this;exact⟨q,L.back x q e,e⟩
 have sub:((AB (mask+1)).map fun x=>(c.getD x none).getD 0) ⊆ AB k:=fun y hy=>by
  obtain⟨x,hx,e⟩:=List.mem_map.mp hy;obtain⟨q,hq,e2⟩:=all x (Nat.lt_succ_iff.mp (List.mem_range.mp hx));rw[Array.getD_eq_getD_getElem?,e2] at e;subst e;exact List.mem_range.mpr hq
 have g:((AB (mask+1)).map fun x=>(c.getD x none).getD 0).Nodup:=by
  refine List.nodup_iff_pairwise_ne.mpr (List.pairwise_map.mpr ?_);refine List.Pairwise.imp_of_mem ?_ (List.nodup_iff_pairwise_ne.mp (List.nodup_range (n:=mask+1)));intro a b f hb d e;obtain⟨q,_,e1⟩:=all a (Nat.lt_succ_iff.mp (List.mem_range.mp f));obtain⟨p,_,e2⟩:=all b (Nat.lt_succ_iff.mp (List.mem_range.mp hb));simp only[Array.getD_eq_getD_getElem?,e1,e2,Option.getD_some] at e;subst e;exact d (L.one a b q e1 e2)
 have:=g.length_le_of_subset sub;rw[Aa,List.length_range,List.length_range] at this;omega
def Iw{a:Array (Option Nat)}{mask j k:Nat}(hz:a.size=mask+1)(b:j<=mask)(i:Nat):(a.setIfInBounds j (some k))[i]?=if i=j then some (some k) else a[i]?:=by
 by_cases q:i=j
 ·subst q
  rw[if_pos rfl,Array.getElem?_setIfInBounds_self_of_lt ω]
 ·rw[if_neg q,Array.getElem?_setIfInBounds_ne (Ne.symm q)]
def Lay.step{mask:Nat}{f:List Int}{c:Array (Option Nat)}{k:Nat}{h:Int}(hc:e_ mask)(L:Lay mask f c k)(hk:k<=mask)(hh:f[k]?=some h):∃j,layClean.free mask c (turns mask) (bits h%(mask+1)) (bits h)=some j/\Lay mask f (c.setIfInBounds j (some k)) (k+1):=by
 obtain⟨x,hx,fx⟩:=L.room hk;obtain⟨d,hd,e⟩:=hc (lp mask h 13).1 x (CK mask h 13) hx;have o:pos mask h (c8 mask h (13+d))=x:=by
  unfold pos;rw[xu];show(lp mask h (13+d)).1=x;rw[xb,e]
 obtain⟨ne,h1,h2,h3⟩:=least (P:=fun m=>¬Own c (pos mask h m)) (c8 mask h (13+d)) (by rw[o];exact fx);have hm:∀m,m<ne->Own c (pos mask h m):=fun m q=>Classical.byContradiction fun z=>h3 m q z;refine⟨pos mask h ne,Iv L.size h h2 hm h1 (turns mask) 0 (AL _) (by unfold turns;omega),?_⟩;have p:pos mask h ne<=mask:=dZ _ _ _;have sg:=Iw (k:=k) L.size p;have own:∀i,Own c i->Own (c.setIfInBounds (pos mask h ne) (some k)) i:=fun i ⟨q,e⟩=>by
  by_cases z:i=pos mask h ne
  ·exact⟨k,by rw[sg,if_pos z]⟩
  ·exact⟨q,by rw[sg,if_neg z];exact e⟩
 refine⟨by rw[Array.size_setIfInBounds];exact L.size,fun q hq=>?_,fun j q e=>?_,fun i j q e1 e2=>?_,fun j q h' e1 e2=>?_⟩
 ·by_cases z:q=k
  ·exact⟨pos mask h ne,by rw[sg,if_pos rfl,z]⟩
  ·obtain⟨j,g⟩:=L.all q ω
   refine⟨j,?_⟩;rw[sg,if_neg fun w=>h2 ⟨q,by rw[<-w];exact g⟩];exact g
 ·rw[sg] at e
  by_cases z:j=pos mask h ne
  ·rw[if_pos z] at e;cases e;omega
  ·rw[if_neg z] at e;have:=L.back j q e;omega
 ·rw[sg] at e1 e2
  by_cases l:i=pos mask h ne
  ·rw[if_pos l] at e1;cases e1
   by_cases z2:j=pos mask h ne
   ·omega
   ·rw[if_neg z2] at e2;have:=L.back j k e2;omega
  ·rw[if_neg l] at e1
   by_cases z2:j=pos mask h ne
   ·rw[if_pos z2] at e2;cases e2;have:=L.back i k e1;omega
   ·rw[if_neg z2] at e2;exact L.one i j q e1 e2
 ·rw[sg] at e1
  by_cases z:j=pos mask h ne
  ·rw[if_pos z] at e1;cases e1
   rw[hh] at e2;cases e2;exact⟨ne,z.symm,fun m q=>own _ (hm m q)⟩
  ·rw[if_neg z] at e1
   obtain⟨n,a,b⟩:=L.path j q h' e1 e2;exact⟨n,a,fun m q=>own _ (b m q)⟩
def Lay.nil(mask:Nat)(b:List Int):Lay mask b (Array.replicate (mask+1) none) 0:=by
 have a:∀(j q:Nat),(Array.replicate (mask+1) (none:Option Nat))[j]?=some (some q)->False:=fun j q e=>by
  rw[Array.getElem?_replicate] at e;split at e<;>cases e
 exact⟨by simp,fun q h=>absurd h (Nat.not_lt_zero _),fun j q e=>(a j q e).elim,fun i j q e=>(a i q e).elim,fun j q h e=>(a j q e).elim⟩
def Ix{mask:Nat}(hc:e_ mask)(d:Array Int)(hk:d.size<=mask+1):∃c,layClean mask d=some c/\Lay mask d.toList c d.size:=by
 have go:∀(rest:List Int)(c:Array (Option Nat))(k:Nat),Lay mask d.toList c k->d.toList.drop k=rest->
   ∃g,(rest.foldl (fun acc h=>do
    let (c,k) <-acc
    let j <-layClean.free mask c (turns mask) (bits h%(mask+1)) (bits h)
    pure (c.setIfInBounds j (some k),k+1)) (some (c,k)))=some (g,k+rest.length)/\Lay mask d.toList g (k+rest.length):=by
  intro rest
  induction rest with
  |nil=>intro c k L _;exact⟨c,rfl,L⟩
  |cons h rest ih=>
   intro c k L e;have f:k<d.toList.length:=by
    rcases Nat.lt_or_ge k d.toList.length with q|q
    ·exact q
    ·rw[List.drop_eq_nil_of_le q] at e;cases e
   have l:d.toList[k]?=some h:=by
    rw[List.drop_eq_getElem_cons f] at e;injection e with e1 _
    rw[Ae f,e1]
   have p:d.toList.drop (k+1)=rest:=by
    rw[List.drop_eq_getElem_cons f] at e;injection e
   rw[A1] at f;obtain⟨j,i,r⟩:=L.step hc ω l;obtain⟨o',a,b⟩:=ih (c.setIfInBounds j (some k)) (k+1) r p;refine⟨o',?_,?_⟩
   ·rw[List.foldl_cons]
    show List.foldl _ (layClean.free mask c (turns mask) (bits h%(mask+1)) (bits h) >>= fun j=>pure (c.setIfInBounds j (some k),k+1)) rest=_;rw[i];show List.foldl _ (some (c.setIfInBounds j (some k),k+1)) rest=_;rw[a,An,show k+1+rest.length=k+(rest.length+1) from ω]
   ·rw[An,show k+(rest.length+1)=k+1+rest.length from ω]
    exact b
 obtain⟨o,a,b⟩:=go d.toList _ 0 (Lay.nil mask _) rfl;rw[Nat.zero_add,A1] at a b;refine⟨o,?_,b⟩;unfold layClean;rw[<-Array.foldl_toList,a]
 rfl
def cC(a:Array (Option Nat))(n:Nat):List (Nat×Nat):=(AB n).filterMap fun j=>(a.getD j none).map (j,·)
def iT{a:Array (Option Nat)}{n:Nat}{x:Nat×Nat}:x∈cC a n↔x.1<n/\a[x.1]?=some (some x.2):=by
 unfold cC;rw[List.mem_filterMap];constructor
 ·rintro⟨j,b,e⟩
  rw[Option.map_eq_some_iff] at e;obtain⟨q,e1,rfl⟩:=e;refine⟨List.mem_range.mp b,?_⟩;rw[Array.getD_eq_getD_getElem?] at e1;cases c:a[j]? with
  |none=>rw[c] at e1;cases e1
  |some v=>rw[c] at e1;simp only[Option.getD_some] at e1;rw[e1]
 ·rintro⟨h1,h2⟩
  refine⟨x.1,List.mem_range.mpr h1,?_⟩;rw[Array.getD_eq_getD_getElem?,h2]
  rfl
def CM(d:Array (Option Nat))(n:Nat):(cC d n).Pairwise fun x y=>x.1<y.1:=by
 unfold cC;refine List.Pairwise.filterMap (S:=fun x y:Nat×Nat=>x.1<y.1) _ ?_ (List.pairwise_lt_range (n:=n));intro a e h b hb f c;rw[Option.map_eq_some_iff] at hb c;obtain⟨_,_,rfl⟩:=hb;obtain⟨_,_,rfl⟩:=c;exact h
def Iy{mask:Nat}{s:List Int}{c:Array (Option Nat)}{k:Nat}(L:Lay mask s c k):(cC c (mask+1)).length=k/\((cC c (mask+1)).map (·.2)).Nodup:=by
 have f:((cC c (mask+1)).map (·.2)).Nodup:=by
  refine List.nodup_iff_pairwise_ne.mpr (List.pairwise_map.mpr ?_);refine List.Pairwise.imp_of_mem ?_ (CM c (mask+1));intro a b g hb h e;have h1:=(iT.mp g).2;have h2:=(iT.mp hb).2;rw[<-e] at h2;have:=L.one _ _ _ h1 h2;omega
 refine⟨?_,f⟩;have i:(cC c (mask+1)).map (·.2) ⊆ AB k:=fun q hq=>by
  obtain⟨x,hx,rfl⟩:=List.mem_map.mp hq;exact List.mem_range.mpr (L.back _ _ (iT.mp hx).2)
 have l:AB k ⊆ (cC c (mask+1)).map (·.2):=fun q hq=>by
  obtain⟨j,d⟩:=L.all q (List.mem_range.mp hq);have o:j<mask+1:=by rw[<-L.size];exact(Array.getElem?_eq_some_iff.mp d).1
  exact List.mem_map.mpr ⟨(j,q),iT.mpr ⟨o,d⟩,rfl⟩
 have p:=f.length_le_of_subset i;have r:=(List.nodup_range (n:=k)).length_le_of_subset l;rw[Aa,List.length_range] at p;rw[List.length_range,Aa] at r;omega
def Iz{mask:Nat}(hc:e_ mask)(I:mask%2=1)(finger moves:Nat)(led plain:Bool)(d:Array Int)(hk:d.size<=mask):∃t f,laid mask finger moves led plain d=some (t,f)/\t.mask=mask/\t.led=led/\t.plain=plain/\f.size=d.size/\f.toList.Nodup/\(∀q∈f.toList,q<d.size)/\
   Tb t (f.map fun q=>(d[q]?).getD 0):=by
 obtain⟨c,e,L⟩:=Ix hc d ω;obtain⟨v,z⟩:=Iy L;refine⟨_,_,by unfold laid;rw[e];exact rfl,rfl,rfl,rfl,?_,?_,?_,?_⟩
 ·show((cC c (mask+1)).map (·.2)).toArray.size=_
  rw[Aj,Aa,v]
 ·exact z
 ·intro q hq
  obtain⟨x,hx,rfl⟩:=List.mem_map.mp (show q∈(cC c (mask+1)).map (·.2) from hq);exact L.back _ _ (iT.mp hx).2
 ·have g:∀i:Nat,(((cC c (mask+1)).map (·.1)).toArray)[i]?=((cC c (mask+1))[i]?).map (·.1):=fun i=>by
   rw[List.getElem?_toArray,Ak]
  have D:∀i:Nat,(((cC c (mask+1)).map (·.2)).toArray)[i]?=((cC c (mask+1))[i]?).map (·.2):=fun i=>by
   rw[List.getElem?_toArray,Ak]
  have r:∀j,Own c j->∃i:Nat,(((cC c (mask+1)).map (·.1)).toArray)[i]?=some j:=fun j ⟨q,l⟩=>by
   have p:j<mask+1:=by rw[<-L.size];exact(Array.getElem?_eq_some_iff.mp l).1
   obtain⟨i,hi,A⟩:=List.mem_iff_getElem.mp (iT.mpr ⟨p,l⟩:(j,q)∈cC c (mask+1));exact⟨i,by rw[g,Ae hi,A];rfl⟩
  refine⟨fun i j a b w hb o=>?_,rfl,?_,fun i j l=>?_,hc,I,?_,fun k j h e1 e2=>?_⟩
  ·have E:((cC c (mask+1))[i]?).map (·.1)=some a:=by rw[<-g];exact w
   have s:((cC c (mask+1))[j]?).map (·.1)=some b:=by rw[<-g];exact hb
   obtain⟨x,ex,rfl⟩:=Option.map_eq_some_iff.mp E;obtain⟨y,C,rfl⟩:=Option.map_eq_some_iff.mp s;obtain⟨hi,rfl⟩:=List.getElem?_eq_some_iff.mp ex;obtain⟨p,rfl⟩:=List.getElem?_eq_some_iff.mp C;exact List.pairwise_iff_getElem.mp (CM c (mask+1)) i j hi p o
  ·show((cC c (mask+1)).map (·.1)).toArray.size=(Array.map _ ((cC c (mask+1)).map (·.2)).toArray).size
   rw[Array.size_map,Aj,Aj,Aa,Aa]
  ·have F:((cC c (mask+1))[i]?).map (·.1)=some j:=by rw[<-g];exact l
   obtain⟨x,ex,rfl⟩:=Option.map_eq_some_iff.mp F;exact Nat.lt_succ_iff.mp (iT.mp (Al ex)).1
  ·show(Array.map _ ((cC c (mask+1)).map (·.2)).toArray).size<=mask
   rw[Array.size_map,Aj,Aa,v];exact hk
  ·have G:((cC c (mask+1))[k]?).map (·.1)=some j:=by rw[<-g];exact e2
   obtain⟨x,ex,rfl⟩:=Option.map_eq_some_iff.mp G;have u:(Array.map (fun q=>(d[q]?).getD 0) ((cC c (mask+1)).map (·.2)).toArray)[k]?=some h:=e1;rw[Array.getElem?_map,D,ex] at u;have hx:=(iT.mp (Al ex)).2;have hq:=L.back _ _ hx;have H:d.toList[x.2]?=some h:=by
    rw[AR];have:d[x.2]?=some d[x.2]:=getElem?_pos d x.2 hq;simp only[Option.map_some,this,Option.getD_some] at u;rw[this,Am u]
   obtain⟨n,a,b⟩:=L.path x.1 x.2 h hx H;exact⟨n,a,fun m hm=>r _ (b m hm)⟩
section
variable{prog:Program}{w:World}{K:Type}[DecidableEq K]{knd:KeyKind prog w K}{A:Around}{E:Ω}{s:Shared}
def fits_of{t:SetTable}{es:Array (Int×Value)}(T:Tb t (es.map (·.1))):t.fits es.size=true:=by
 have h1:=T.size;have h2:=T.room;rw[Array.size_map] at h1 h2;unfold SetTable.fits SetTable.fill;rw[T.dum,h1];simp;exact h2
def IA(n:Nat){v:Value}(h:carriedByValue v=true):ofAClassStatement n v=pure false:=by
 cases v with
 |ref a=>simp[carriedByValue] at h
 |_=>cases n<;>rfl
def CN{ks:List K}{b:Addr}{Q:Bool->Shared->Prop}(hk:AS knd s.heap ks b)(h:Q false s):wpAny (model prog w) A (ofAClassStatement 8 (.ref b)) Q E s:=by
 have f:=hk.typeIs;obtain⟨o,d,n,e,_,hd,hi⟩:=hk;unfold ofAClassStatement;refine Ab (wpAny_typeOf f ?_);show wpAny _ _ ((if("tuple" == "tuple")=true then pure true else isSubtype (.type "tuple") (.type "tuple")) >>= _) _ _ s;rw[if_pos ξ];refine Ab (Ac ?_);simp only[Bool.not_true,Au,if_false];refine Ab (A0 e hd ?_);refine Ab ?_;show wpAny _ _ (forIn d _ _) _ _ s;rw[<-Array.forIn_toList];refine wpAny_forIn_list _ (fun rest r s'=>r.1=none/\s'=s/\∀v∈rest,carriedByValue v=true) _ ?_ ?_ _ _ ⟨rfl,rfl,hi.byValue⟩
 ·rintro v rest r s' ⟨hr,rfl,a⟩
  rw[IA _ (a v As)];refine Ab (Ac ?_);simp only[Au,if_false];exact Ac ⟨rfl,rfl,fun u c=>a u (Aq _ c)⟩
 ·rintro⟨g,i⟩ s' ⟨hr,rfl,_⟩
  simp only at hr;subst hr;exact Ac h
def IB{ks:List K}{b:Addr}{ys:List Value}{Q:Bool->Shared->Prop}(hk:AS knd s.heap ks b)(hy:∀y∈ys,∃d c,y=.ref c/\AS knd s.heap d c)(h:Q false s):wpAny (model prog w) A (searchCouldBeSeen (.ref b) ys) Q E s:=by
 unfold searchCouldBeSeen;refine Ab ?_;refine wpAny_forIn_list _ (fun rest r s'=>r.1=none/\s'=s/\∀y∈rest,∃d c,y=.ref c/\AS knd s.heap d c) _ ?_ ?_ _ _ ⟨rfl,rfl,hy⟩
 ·rintro v rest r s' ⟨hr,rfl,a⟩
  obtain⟨d,c,rfl,hc⟩:=a v As;have nx:∀u∈rest,∃d c,u=.ref c/\AS knd s'.heap d c:=fun u e=>a u (Aq _ e);dsimp only;split
  ·exact Ac ⟨rfl,rfl,nx⟩
  ·refine Ab (wpAny_eqIsQuiet_tuple hk ?_)
   simp only[Bool.not_true,Au,if_false];refine Ab (wpAny_eqIsQuiet_tuple hc ?_);simp only[Bool.not_true,Au,if_false];refine Ab (CN hk ?_);simp only[Au,if_false];refine Ab (CN hc ?_);simp only[Au,if_false];exact Ac ⟨rfl,rfl,nx⟩
 ·rintro⟨f,g⟩ s' ⟨hr,rfl,_⟩
  simp only at hr;subst hr;exact Ac h
structure TS(knd:KeyKind prog w K)(h:Heap)(S:Addr)(o:Obj)(es:Array (Int×Value))(ep:Nat)(t:SetTable)(ks:List (List K))(B:List Addr):Prop where
 at_:h.get? S=some o
 ex:o.ExactSet
 dt:o.data=.set es ep t
 tb:Tb t (es.map (·.1))
 sz:es.size=ks.length
 nd:ks.Nodup
 el:∀e∈es.toList,∃k b,k∈ks/\e=(Aw knd k,Value.ref b)/\AS knd h k b
 ke:∀k∈ks,∃b,(Aw knd k,Value.ref b)∈es.toList/\AS knd h k b
 msk:(t.mask=7/\es.size<=4)\/(t.mask=31/\es.size<=18)\/(t.mask=127/\es.size<=76)\/(t.mask=15/\es.size<=8)\/(t.mask=63/\es.size<=37)\/(t.mask=255/\es.size<=152)
 ad:∀e∈es.toList,∃b∈B,e.2=Value.ref b
 wk:w.params.followText "set-order"=true\/(t.led=true/\t.plain=true)
def IC{B:List Addr}{S:Addr}{o:Obj}{es:Array (Int×Value)}{ep:Nat}{t:SetTable}{ks:List (List K)}(X:TS knd s.heap S o es ep t ks B)(hu:A.units<cLine){k:List K}{b:Addr}(hk:AS knd s.heap k b){ne:Nat}(D:ne<10*turns t.mask)(he:¬eB t (pos t.mask (Aw knd k) ne))(hm:∀m,m<ne->eB t (pos t.mask (Aw knd k) m)){add:Bool}{Q:SetFound->Shared->Prop}(h1:k∈ks->∀r:Option Nat,(add=false->r.isSome=true)->Q (.there r) s)(h2:k∉ks->Q (.free (pos t.mask (Aw knd k) ne) false) s):∀(fuel n:Nat)(f:Option Probe),ne<n+fuel->n<=ne->f.getD (t.probeStart (Aw knd k))=pr t.mask (Aw knd k) n->
   (∀(m i:Nat)(c:Addr),m<n->t.place[i]?=some (pos t.mask (Aw knd k) m)->es[i]?=some (Aw knd k,Value.ref c)->¬AS knd s.heap k c)->
   wpAny (model prog w) A (setSearchFrom S (.ref b) (Aw knd k) add fuel f) Q E s:=by
 have T:=X.tb;have u:=fits_of T;have hA:∀i:Nat,(es.map (·.1))[i]?=(es[i]?).map (·.1):=fun i=>Array.getElem?_map ..;intro fuel
 induction fuel with
 |zero=>intro n f J F _ _;omega
 |succ fuel ih=>
  intro n f J F L G;unfold setSearchFrom;refine Ab (wpAny_setState_of X.at_ X.dt u ?_);dsimp only;have gw:t.gaveWay=false:=by
   unfold SetTable.gaveWay;rw[T.odd]
   rfl
  rw[gw];simp only[Au,if_false];rw[L];rcases probe_spec T (hashAt:=fun i=>((es[i]?).map (·.1)).getD 0) D he hm F with ⟨ep1,none_⟩|⟨N,i,b1,b2,b3,b4,b5,b6⟩
  ·have ml:t.probe (fun i=>((es[i]?).map (·.1)).getD 0) (Aw knd k) (pr t.mask (Aw knd k) n)=some (.empty (pos t.mask (Aw knd k) ne) none):=ep1
   show wpAny _ _ (match t.probe (fun i=>((es[i]?).map (·.1)).getD 0) (Aw knd k) (pr t.mask (Aw knd k) n) with|some met=>_|_=>_) _ _ s;rw[ml];dsimp only;refine Ac (h2 fun j=>?_);obtain⟨c,M,O⟩:=X.ke k j;obtain⟨i,hi,a⟩:=List.mem_iff_getElem.mp M;have v:es[i]?=some (Aw knd k,.ref c):=by
    rw[<-AR,Ae hi,a]
   have x:i<t.place.size:=by rw[T.size,Array.size_map];simpa using hi
   have C:t.place[i]?=some t.place[i]:=getElem?_pos t.place i x;obtain⟨N,P,I⟩:=Iq T he (k:=i) (by rw[hA,v];rfl) C;rcases Nat.lt_or_ge N n with q|q
   ·exact G N i c q (by rw[I];exact C) v O
   ·exact none_ N i q P (by rw[I];exact C) (by show((es[i]?).map (·.1)).getD 0=_;rw[v];rfl)
  ·show wpAny _ _ (match t.probe (fun i=>((es[i]?).map (·.1)).getD 0) (Aw knd k) (pr t.mask (Aw knd k) n) with|some met=>_|_=>_) _ _ s
   rw[b5];dsimp only;have hi:i<es.size:=by
    have:=(Array.getElem?_eq_some_iff.mp b3).1;rw[T.size,Array.size_map] at this;exact this
   have a:es[i]?=some es[i]:=getElem?_pos es i hi;obtain⟨h,c,hk',U,hc⟩:=X.el es[i] (by simp);rw[U] at a;have eh:Aw knd h=Aw knd k:=by
    have:((es[i]?).map (·.1)).getD 0=Aw knd k:=b4;rw[a] at this;exact this
   rw[eh] at a;have sm:t.sameMemory t.moves t.mask=some true:=by unfold SetTable.sameMemory;rw[if_pos (by simp)]
   have d:h≠k->wpAny (model prog w) A (setSearchFrom S (.ref b) (Aw knd k) add fuel (some (pr t.mask (Aw knd k) (N+1)))) Q E s:=fun eq=>by
    refine ih (N+1) _ ω ω rfl fun m i2 l q1 p g H=>?_;rcases Nat.lt_or_ge m n with z|z
    ·exact G m i2 l z p g H
    ·rcases Nat.lt_or_ge m N with z2|z2
     ·exact b6 m i2 z z2 p (by show((es[i2]?).map (·.1)).getD 0=_;rw[g];rfl)
     ·have:m=N:=ω
      subst this;have:=T.ris.inj p b3;subst this;rw[a] at g;cases g;exact eq (IsTupleKey.inj hc H)
   cases led:t.led
   all_goals simp only[Bool.not_true,Bool.not_false,Au,if_true,if_false]
   ·refine Ab (IB hk (fun y hy=>?_) ?_)
    ·obtain⟨e,he',rfl⟩:=List.mem_map.mp hy
     rw[Array.toList_filter] at he';obtain⟨W,l,_,e2,Y⟩:=X.el e (List.mem_filter.mp he').1;exact⟨W,l,by rw[e2],Y⟩
    simp only[Au,if_false];rw[a];refine Ab (AM (wpAny_eqBool_tuple hu hc hk ?_));refine Ab (wpAny_setState_of X.at_ X.dt u ?_)
    by_cases eq:h=k
    ·subst eq
     cases add
     ·simp only[decide_true,Bool.false_and,Au,if_false]
      rw[sm];simp only[if_true];rw[k9 T b3];dsimp only;rw[a];refine Ab (wpAny_isSame_ref_self (Ab (Ac ?_)));simp only[if_true];exact Ac (h1 hk' _ fun _=>rfl)
     ·simp only[decide_true,Bool.and_self,if_true]
      exact Ac (h1 hk' _ fun z=>by cases z)
    ·rw[decide_eq_false eq]
     simp only[Bool.and_false,Au,if_false];rw[sm];simp only[if_true];rw[k9 T b3];dsimp only;rw[a];refine Ab (wpAny_isSame_ref_self (Ab (Ac ?_)));simp only[if_true];exact d eq
   ·rw[a]
    refine Ab (AM (wpAny_eqBool_tuple hu hc hk ?_));refine Ab (wpAny_setState_of X.at_ X.dt u ?_)
    by_cases eq:h=k
    ·subst eq
     cases add
     ·simp only[decide_true,Bool.false_and,Au,if_false]
      rw[sm];simp only[if_true];rw[k9 T b3];dsimp only;rw[a];refine Ab (wpAny_isSame_ref_self (Ab (Ac ?_)));simp only[if_true];exact Ac (h1 hk' _ fun _=>rfl)
     ·simp only[decide_true,Bool.and_self,if_true]
      exact Ac (h1 hk' _ fun z=>by cases z)
    ·rw[decide_eq_false eq]
     simp only[Bool.and_false,Au,if_false];rw[sm];simp only[if_true];rw[k9 T b3];dsimp only;rw[a];refine Ab (wpAny_isSame_ref_self (Ab (Ac ?_)));simp only[if_true];exact d eq
def jF{h h':Heap}{S b:Addr}{k:List K}{o:Obj}{es ep t}(hk:AS knd h k b)(f:h.get? S=some o)(hd:o.data=.set es ep t)(hs:A6 S h h'):AS knd h' k b:=by
 obtain⟨o',e,n,a,hc,c,hi⟩:=hk;have d:b≠S:=by
  rintro rfl;obtain rfl:o'=o:=Am (a.symm.trans f);rw[hd] at c;exact nomatch c
 exact⟨o',e,n,(hs.2 b d).trans a,hc,c,hi⟩
def ID{ks:List K}{b:Addr}{Q:Bool->Shared->Prop}(g:∀k v n,knd.is k v=true->hashByValue n v=pure true)(hk:AS knd s.heap ks b)(h:Q true s):wpAny (model prog w) A (hashByValue 8 (.ref b)) Q E s:=by
 have f:=hk.typeIs;obtain⟨o,d,n,e,_,hd,hi⟩:=hk;unfold hashByValue;refine Ab (wpAny_specialOf f F.slot_tuple_hash.lookup ?_);dsimp only;refine Ab (A0 e hd ?_);refine Ab ?_;show wpAny _ _ (forIn d _ _) _ _ s;rw[<-Array.forIn_toList];refine wpAny_forIn_list _ (fun rest r s'=>r.1=none/\s'=s/\∃c,ItemsAre knd c rest) _ ?_ ?_ _ _ ⟨rfl,rfl,ks,hi⟩
 ·rintro v rest r s' ⟨hr,rfl,c,a⟩
  cases a with
  |@cons k _ ks'' _ h1 h2=>
   rw[g k v 7 h1];refine Ab (Ac ?_);simp only[Bool.not_true,Au,if_false];exact Ac ⟨rfl,rfl,ks'',h2⟩
 ·rintro⟨i,j⟩ s' ⟨hr,rfl,_⟩
  simp only at hr;subst hr;exact Ac h
def CO{h:Heap}{S:Addr}{o:Obj}{es:Array (Int×Value)}{ep:Nat}{t:SetTable}{a:Array (Int×Value)}{t':SetTable}(b:h.get? S=some o)(hd:o.data=.set es ep t):(h.update S (Obj.putSet a t')).get? S=some {o with data:=.set a (ep+1) t'}:=by
 have:=Heap.get?_update_self (Obj.putSet a t') b (by rw[putSet_of a t' hd];rfl);rw[putSet_of a t' hd] at this;exact this
def CP{b:Type}{es:Array b}:∀{l:List Nat},(∀q∈l,q<es.size)->∃a:List b,l.filterMap (es[·]?)=a/\a.length=l.length/\(∀x∈a,x∈es.toList)/\(∀(i q:Nat),l[i]?=some q->a[i]?=es[q]?)
 |[],_=>⟨[],rfl,rfl,(fun x hx=>by cases hx),(fun i q e=>by cases i<;>simp at e)⟩
 |q::l,h=>by
  obtain⟨a,e1,e2,e3,c⟩:=CP (l:=l) fun x hx=>h x (Aq _ hx);have hq:=h q As;refine⟨es[q]::a,?_,by rw[An,An,e2],fun x hx=>?_,fun i p e=>?_⟩
  ·rw[List.filterMap_cons,getElem?_pos es q hq,e1]
  ·rcases List.mem_cons.mp hx with rfl|hx
   ·simp
   ·exact e3 x hx
  ·cases i with
   |zero=>simp at e;subst e;simp[getElem?_pos es q hq]
   |succ i=>simp at e ⊢;exact c i p e
def IE{B:List Addr}{S:Addr}{o:Obj}{es:Array (Int×Value)}{ep:Nat}{t:SetTable}{ks:List (List K)}{l a:Nat}(g:s.heap.get? S=some o)(hex:o.ExactSet)(hd:o.data=.set es ep t)(T:Tb t (es.map (·.1)))(hsz:es.size=ks.length)(Y:ks.Nodup)(ad:∀e∈es.toList,∃b∈B,e.2=Value.ref b)(el:∀e∈es.toList,∃k b,k∈ks/\e=(Aw knd k,Value.ref b)/\AS knd s.heap k b)(ke:∀k∈ks,∃b,(Aw knd k,Value.ref b)∈es.toList/\AS knd s.heap k b)(hw:SetTable.sizeAbove l-1=a)(fC:SetTable.sizeAbove l<=sizeLine)(hc:e_ a)(ho:a%2=1)(hr:es.size<=a)(hz:es.size<=1000)(s_:(a=7/\es.size<=4)\/(a=31/\es.size<=18)\/(a=127/\es.size<=76)\/(a=15/\es.size<=8)\/(a=63/\es.size<=37)\/(a=255/\es.size<=152))(wk:w.params.followText "set-order"=true\/(t.led=true/\t.plain=true)){Q:Unit->Shared->Prop}(h:∀h' o' I J t',TS knd h' S o' I J t' ks B->A6 S s.heap h'->Q () {s with heap:=h'}):wpAny (model prog w) A (setRelay S l) Q E s:=by
 have U:=fits_of T;unfold setRelay;refine Ab (wpAny_setState_of g hd U ?_);dsimp only;rw[if_neg (Nat.not_lt.mpr fC)];obtain⟨f,c,e1,e2,e3,L,r,M,j,N⟩:=Iz hc ho t.finger (t.movedTo a) t.led t.plain (es.map (·.1)) (by rw[Array.size_map];exact hr);have W:t.relaid (es.map (·.1)) l=some (f,c):=by
  unfold SetTable.relaid;rw[hw];exact e1
 rw[Array.size_map] at r j;obtain⟨d,f1,f2,D,F⟩:=CP (es:=es) j;have G:c.filterMap (es[·]?)=d.toArray:=by
  apply Array.toList_inj.mp;rw[Array.toList_filterMap,f1]
 have hl:d.length=es.size:=by rw[f2,A1,r]
 rw[W];refine Ab ?_;show wpAny _ _ (ite (((c.filterMap (es[·]?)).size != es.size)=true) _ _) _ _ _;rw[if_neg (by rw[G,Aj,hl];simp),G];refine Ac ?_;dsimp only;have X:(d.toArray.map (·.1))=c.map fun q=>((es.map (·.1))[q]?).getD 0:=by
  apply Array.ext_getElem?;intro i;rw[Array.getElem?_map,Array.getElem?_map,List.getElem?_toArray];cases q:c[i]? with
  |none=>
   have:c.toList.length<=i:=by rw[A1];exact Array.getElem?_eq_none_iff.mp q
   rw[List.getElem?_eq_none ω]
   rfl
  |some p=>
   have e:=F i p (by rw[AR];exact q);have hp:=j p (by rw[<-AR] at q;exact Al q);rw[e,getElem?_pos es p hp];simp[hp]
 have T2:Tb f (d.toArray.map (·.1)):=by rw[X];exact N
 have y:∀q,q<es.size->q∈c.toList:=fun q hq=>Classical.byContradiction fun z=>by
  have C:(q::c.toList).Nodup:=List.nodup_cons.mpr ⟨z,M⟩;have sub:(q::c.toList) ⊆ AB es.size:=fun x hx=>by
   rcases List.mem_cons.mp hx with rfl|hx
   ·exact List.mem_range.mpr hq
   ·exact List.mem_range.mpr (j x hx)
  have:=C.length_le_of_subset sub;rw[An,A1,r,List.length_range] at this;omega
 refine wpAny_storeSet_of g hd ?_ (by rw[Aj,hl,sizeLine_eq];omega);refine h _ {o with data:=.set d.toArray (ep+1) f} d.toArray (ep+1) f ?_ (AO ..);have H:A6 S s.heap (s.heap.update S (Obj.putSet d.toArray f)):=AO ..;refine⟨CO g hd,hex,rfl,T2,by rw[Aj,hl];exact hsz,Y,fun e he=>?_,fun k hk=>?_,?_,fun e he=>ad e (D e he),by rw[e3,L];exact wk⟩
 ·obtain⟨k,b,u,v,O⟩:=el e (D e he)
  exact⟨k,b,u,v,jF O g hd H⟩
 ·obtain⟨b,u,v⟩:=ke k hk
  refine⟨b,?_,jF v g hd H⟩;obtain⟨q,hq,eq⟩:=List.mem_iff_getElem.mp u;rw[A1] at hq;obtain⟨i,hi,P⟩:=List.mem_iff_getElem.mp (y q hq);have e:=F i q (by rw[Ae hi,P]);refine Al (i:=i) ?_;rw[e,<-eq];simp[hq]
 ·rw[e2,Aj,hl]
  exact s_
def ins_map{a b:Type}(f:a->b)(xs:Array a)(p:Nat)(x:a)(hp:p<=xs.size):(insertAt xs p x).map f=insertAt (xs.map f) p (f x):=by
 apply Array.ext_getElem?;intro i;rw[Array.getElem?_map,eS _ _ _ hp,eS _ _ _ (by rw[Array.size_map];exact hp),Array.getElem?_map,Array.getElem?_map]
 by_cases h1:i<p
 ·rw[if_pos h1,if_pos h1]
 ·rw[if_neg h1,if_neg h1]
  by_cases h2:i=p
  ·rw[if_pos h2,if_pos h2];rfl
  ·rw[if_neg h2,if_neg h2]
def ins_mem{a:Type}{xs:Array a}{p:Nat}{x y:a}(hp:p<=xs.size):y∈(insertAt xs p x).toList↔y=x\/y∈xs.toList:=by
 constructor
 ·intro h
  obtain⟨i,hi,e⟩:=List.mem_iff_getElem.mp h;have e2:(insertAt xs p x)[i]?=some y:=by rw[<-AR,Ae hi,e]
  rw[eS _ _ _ hp] at e2
  by_cases h1:i<p
  ·rw[if_pos h1,<-AR] at e2;exact .inr (Al e2)
  ·rw[if_neg h1] at e2
   by_cases h2:i=p
   ·rw[if_pos h2] at e2;exact .inl (Am e2).symm
   ·rw[if_neg h2,<-AR] at e2;exact .inr (Al e2)
 ·rintro(rfl|h)
  ·refine Al (i:=p) ?_
   rw[AR,eS _ _ _ hp,if_neg (Nat.lt_irrefl _),if_pos rfl]
  ·obtain⟨i,hi,e⟩:=List.mem_iff_getElem.mp h
   have e2:xs[i]?=some y:=by rw[<-AR,Ae hi,e]
   by_cases h1:i<p
   ·refine Al (i:=i) ?_
    rw[AR,eS _ _ _ hp,if_pos h1];exact e2
   ·refine Al (i:=i+1) ?_
    rw[AR,eS _ _ _ hp,if_neg ω,if_neg ω,Nat.add_sub_cancel];exact e2
def IF{B:List Addr}{S:Addr}{o:Obj}{es:Array (Int×Value)}{ep:Nat}{t:SetTable}{ks:List (List K)}(X:TS knd s.heap S o es ep t ks B)(hu:A.units<cLine)(hv:∀k v n,knd.is k v=true->hashByValue n v=pure true){k:List K}{b:Addr}(hk:AS knd s.heap k b)(mE:b∈B)(hn:ks.length<60){Q:Bool->Shared->Prop}(h:∀(r:Bool) h' o' bQ cG t',TS knd h' S o' bQ cG t' (if k∈ks then ks else ks++[k]) B->A6 S s.heap h'->Q r {s with heap:=h'}):wpAny (model prog w) A (setAddHashed S (.ref b) (Aw knd k)) Q E s:=by
 unfold setAddHashed;refine AM ?_;have T:=X.tb;have fF:=fits_of T;have X':TS knd s.heap S o es ep t ks B:=X;unfold setAddHashedIn;refine Ab (wpAny_setState_of (s:=s) X.at_ X.dt fF ?_);dsimp only;have nb:byScan (.ref b) es=false:=rfl;rw[nb];simp only[Au,if_false];obtain⟨ne,I,he,hm⟩:=Ip T (Aw knd k);refine Ab ?_;unfold setSearch;refine IC (s:=s) X' hu hk I he hm (fun W r0 _=>?_) (fun gQ=>?_) 100000 0 none ?_ (AL _) rfl (fun m i c c7=>absurd c7 (Nat.not_lt_zero _))
 ·dsimp only
  refine Ac (h false s.heap o es ep t ?_ (Heap.SameBut.refl ..));rw[if_pos W];exact X
 ·dsimp only
  refine Ab (wpAny_setState_of (s:=s) X.at_ X.dt fF ?_);dsimp only;have jb:(es.map (·.1)).size+1<=t.mask:=by
   rw[Array.size_map];rcases X.msk with ⟨a,b⟩|⟨a,b⟩|⟨a,b⟩|⟨a,b⟩|⟨a,b⟩|⟨a,b⟩<;>omega
  obtain⟨F,p2,H⟩:=Ir T he hm jb;rw[Array.size_map] at F;obtain⟨j,p,jd⟩:∃j p,t.put (pos t.mask (Aw knd k) ne)=(j,p):=⟨_,_,rfl⟩;rw[jd] at F p2 H ⊢;dsimp only at F p2 H ⊢;have f_:k∉ks:=gQ;have G:(insertAt es p (Aw knd k,Value.ref b)).size=es.size+1:=qb _ _ _ F;have J:=X.sz;have fR:es.size<60:=ω
  have L:∀d:SetTable,Tb d (insertAt (es.map (·.1)) p (Aw knd k))->d.mask=t.mask->wpAny (model prog w) A (storeSet S (insertAt es p (Aw knd k,Value.ref b)) d)
    (fun _ s'=>∃h',s'={s with heap:=h'}/\h'.get? S=some {o with data:=.set (insertAt es p (Aw knd k,Value.ref b)) (ep+1) d}/\A6 S s.heap h') E s:=fun d T2 m2=>
   wpAny_storeSet_of (s:=s) X.at_ X.dt ⟨_,rfl,CO X.at_ X.dt,AO ..⟩ (by rw[G,sizeLine_eq];omega)
  have M:(insertAt es p (Aw knd k,Value.ref b)).map (·.1)=insertAt (es.map (·.1)) p (Aw knd k):=ins_map (·.1) es p _ F;have jT:(ks++[k]).Nodup:=by
   rw[AU];refine⟨X.nd,by simp,fun x hx y hy=>?_⟩;rw[List.mem_singleton.mp hy];exact fun z=>f_ (z▸hx)
  have N:∀h',A6 S s.heap h'->∀e∈(insertAt es p (Aw knd k,Value.ref b)).toList,∃D u,D∈ks++[k]/\e=(Aw knd D,Value.ref u)/\AS knd h' D u:=fun h' g e he=>by
   rcases(ins_mem F).mp he with rfl|he
   ·exact⟨k,b,by simp,rfl,jF hk X.at_ X.dt g⟩
   ·obtain⟨D,u,a1,a2,a3⟩:=X.el e he
    exact⟨D,u,List.mem_append_left _ a1,a2,jF a3 X.at_ X.dt g⟩
  have O:∀h',A6 S s.heap h'->∀D∈ks++[k],∃u,(Aw knd D,Value.ref u)∈(insertAt es p (Aw knd k,Value.ref b)).toList/\AS knd h' D u:=fun h' g D hk'=>by
   rcases List.mem_append.mp hk' with hk'|hk'
   ·obtain⟨u,a1,a2⟩:=X.ke D hk'
    exact⟨u,(ins_mem F).mpr (.inr a1),jF a2 X.at_ X.dt g⟩
   ·rw[List.mem_singleton.mp hk']
    exact⟨b,(ins_mem F).mpr (.inl rfl),jF hk X.at_ X.dt g⟩
  have P:∀e∈(insertAt es p (Aw knd k,Value.ref b)).toList,∃u∈B,e.2=Value.ref u:=fun e he=>by
   rcases(ins_mem F).mp he with rfl|he
   ·exact⟨b,mE,rfl⟩
   ·exact X.ad e he
  have C:∀(d:SetTable)(h':Heap),Tb d (insertAt (es.map (·.1)) p (Aw knd k))->d.mask=t.mask->(w.params.followText "set-order"=true\/(d.led=true/\d.plain=true))->h'.get? S=some {o with data:=.set (insertAt es p (Aw knd k,Value.ref b)) (ep+1) d}->A6 S s.heap h'->
    wpAny (model prog w) A (if(!false&&d.tooFull)=true then(setRelay S (SetTable.grown (es.size+1)) >>= fun _=>pure true) else pure true) Q E {s with heap:=h'}:=fun d h' T2 m2 pd hg g=>by
   have T2':Tb d ((insertAt es p (Aw knd k,Value.ref b)).map (·.1)):=by rw[M];exact T2
   have fl:d.fill=es.size+1:=by
    unfold SetTable.fill;rw[T2'.dum,T2'.size,Array.size_map,G]
    rfl
   have tf:d.tooFull=decide ((es.size+1)*5 ≥ t.mask*3):=by unfold SetTable.tooFull;rw[fl,m2]
   have lk:es.size+1=(ks++[k]).length:=by rw[Ai,J];rfl
   have stay:((es.size+1)*5<t.mask*3)->((d.mask=7/\es.size+1<=4)\/(d.mask=31/\es.size+1<=18)\/(d.mask=127/\es.size+1<=76)\/(d.mask=15/\es.size+1<=8)\/(d.mask=63/\es.size+1<=37)\/(d.mask=255/\es.size+1<=152))->wpAny (model prog w) A (if(!false&&d.tooFull)=true then(setRelay S (SetTable.grown (es.size+1)) >>= fun _=>pure true) else pure true) Q E {s with heap:=h'}:=fun q mk=>by
    rw[tf,decide_eq_false ω];simp only[Bool.and_false,Au,if_false];refine Ac (h true h' {o with data:=.set (insertAt es p (Aw knd k,Value.ref b)) (ep+1) d} (insertAt es p (Aw knd k,Value.ref b)) (ep+1) d ?_ g);rw[if_neg f_];exact⟨hg,X.ex,rfl,T2',by rw[G];exact lk,jT,N h' g,O h' g,by rw[G];exact mk,P,pd⟩
   have f:∀l n,es.size+1=n->((es.size+1)*5 ≥ t.mask*3)->SetTable.sizeAbove (SetTable.grown n)-1=l->SetTable.sizeAbove (SetTable.grown n)<=1000->e_ l->l%2=1->es.size+1<=l->((l=7/\es.size+1<=4)\/(l=31/\es.size+1<=18)\/(l=127/\es.size+1<=76)\/(l=15/\es.size+1<=8)\/(l=63/\es.size+1<=37)\/(l=255/\es.size+1<=152))->
     wpAny (model prog w) A (if(!false&&d.tooFull)=true then(setRelay S (SetTable.grown (es.size+1)) >>= fun _=>pure true) else pure true) Q E {s with heap:=h'}:=fun l n en q w1 w2 c1 c2 c3 mk=>by
    rw[tf,decide_eq_true q];simp only[Bool.not_false,Bool.and_self,if_true];subst en;refine Ab (IE (s:={s with heap:=h'}) (ks:=ks++[k]) hg X.ex rfl T2' (by rw[G];exact lk) jT P (N h' g) (O h' g) w1 (by rw[sizeLine_eq];omega) c1 c2 (by rw[G];exact c3) (by rw[G];omega) (by rw[G];exact mk) pd fun fb sQ mC nI sD wD mO=>?_);refine Ac (h true fb sQ mC nI sD ?_ (g.trans mO));rw[if_neg f_];exact wD
   rcases X.msk with ⟨a,c⟩|⟨a,c⟩|⟨a,c⟩|⟨a,c⟩|⟨a,c⟩|⟨a,c⟩
   ·by_cases q:es.size+1<=4
    ·exact stay ω (.inl ⟨ω,q⟩)
    ·exact f 31 5 ω ω δ δ ni rfl ω (.inr (.inl ⟨rfl,ω⟩))
   ·by_cases q:es.size+1<=18
    ·exact stay ω (.inr (.inl ⟨ω,q⟩))
    ·exact f 127 19 ω ω δ δ jE rfl ω (.inr (.inr (.inl ⟨rfl,ω⟩)))
   ·exact stay ω (.inr (.inr (.inl ⟨ω,ω⟩)))
   ·by_cases q:es.size+1<=8
    ·exact stay ω (.inr (.inr (.inr (.inl ⟨ω,q⟩))))
    ·exact f 63 9 ω ω δ δ nr rfl ω (.inr (.inr (.inr (.inr (.inl ⟨rfl,ω⟩)))))
   ·by_cases q:es.size+1<=37
    ·exact stay ω (.inr (.inr (.inr (.inr (.inl ⟨ω,q⟩)))))
    ·exact f 255 38 ω ω δ δ jC rfl ω (.inr (.inr (.inr (.inr (.inr ⟨rfl,ω⟩)))))
   ·exact stay ω (.inr (.inr (.inr (.inr (.inr ⟨ω,ω⟩)))))
  have U:w.params.followText "set-order"=true\/(j.led=true/\j.plain=true):=by
   have e1:j=(t.put (pos t.mask (Aw knd k) ne)).1:=by rw[jd]
   have e2:j.led=t.led:=by rw[e1];rfl
   have e3:j.plain=t.plain:=by rw[e1];rfl
   rw[e2,e3];exact X.wk
  cases hpl:j.plain with
  |true=>
   simp only[if_true];refine Ab (ID (s:=s) hv hk ?_);simp only[if_true];refine Ab (wpAny_mono (L j H p2) (fun _ s' Y=>?_) fun _ _ e=>e);obtain⟨h',rfl,g1,g2⟩:=Y;exact C j h' H p2 U g1 g2
  |false=>
   simp only[Au,if_false];refine Ab (Ac ?_);simp only[if_true];refine Ab (wpAny_mono (L j H p2) (fun _ s' Y=>?_) fun _ _ e=>e);obtain⟨h',rfl,g1,g2⟩:=Y;exact C j h' H p2 U g1 g2
 ·have:t.mask<=255:=by rcases X.msk with ⟨a,_⟩|⟨a,_⟩|⟨a,_⟩|⟨a,_⟩|⟨a,_⟩|⟨a,_⟩<;>omega
  unfold turns at I;omega
def IG{B:List Addr}{S:Addr}{o:Obj}{es:Array (Int×Value)}{ep:Nat}{t:SetTable}{ks:List (List K)}(X:TS knd s.heap S o es ep t ks B)(hu:A.units<cLine)(a:∀k v n,knd.is k v=true->hashByValue n v=pure true){k:List K}{b:Addr}(hk:AS knd s.heap k b)(c:b∈B)(hn:ks.length<60){Q:Bool->Shared->Prop}(h:∀(r:Bool) h' o' bQ cG t',TS knd h' S o' bQ cG t' (if k∈ks then ks else ks++[k]) B->A6 S s.heap h'->Q r {s with heap:=h',toks:=s.toks+(k.length+1)}):wpAny (model prog w) A (setAdd S (.ref b)) Q E s:=by
 unfold setAdd;exact AM (Ab (wpAny_pyHash_tuple hu hk (IF (s:={s with toks:=s.toks+(k.length+1)}) X hu a hk c hn h)))
end
end STb
end
section
namespace STb
def dd{a:Type}[DecidableEq a](l:List a):List a:=l.foldl (fun acc x=>if x∈acc then acc else acc++[x]) []
def nv{a:Type}[DecidableEq a](l:List a)(x:a):dd (l++[x])=if x∈dd l then dd l else dd l++[x]:=by unfold dd;rw[List.foldl_append];rfl
def ir{a:Type}[DecidableEq a](l:List a):(dd l).length<=l.length:=by
 have:∀(l acc:List a),(l.foldl (fun acc x=>if x∈acc then acc else acc++[x]) acc).length<=acc.length+l.length:=by
  intro l
  induction l with
  |nil=>intro acc;simp
  |cons x l ih=>
   intro acc;rw[List.foldl_cons];refine AD (ih _) ?_;split
   ·rw[An];omega
   ·rw[Ai,An,An,List.length_nil];omega
 simpa[dd] using this l []
def fc{a:Type}[DecidableEq a](l:List a)(x:a):x∈dd l↔x∈l:=by
 have:∀(l acc:List a),x∈(l.foldl (fun acc x=>if x∈acc then acc else acc++[x]) acc)↔x∈acc\/x∈l:=by
  intro l
  induction l with
  |nil=>intro acc;simp
  |cons y l ih=>
   intro acc;rw[List.foldl_cons,ih]
   by_cases h:y∈acc
   ·rw[if_pos h,List.mem_cons]
    constructor
    ·rintro(q|q)
     ·exact .inl q
     ·exact .inr (.inr q)
    ·rintro(q|q|q)
     ·exact .inl q
     ·subst q;exact .inl h
     ·exact .inr q
   ·rw[if_neg h,List.mem_append,A3,List.mem_cons]
    constructor
    ·rintro((q|q)|q)
     ·exact .inl q
     ·exact .inr (.inl q)
     ·exact .inr (.inr q)
    ·rintro(q|q|q)
     ·exact .inl (.inl q)
     ·exact .inl (.inr q)
     ·exact .inr q
 simpa[dd] using this l []
def k_{c:Type}[DecidableEq c](l:List c):(dd l).Nodup:=by
 have:∀(l acc:List c),acc.Nodup->(l.foldl (fun acc x=>if x∈acc then acc else acc++[x]) acc).Nodup:=by
  intro l
  induction l with
  |nil=>intro acc h;exact h
  |cons y l ih=>
   intro acc h;rw[List.foldl_cons]
   by_cases q:y∈acc
   ·rw[if_pos q];exact ih acc h
   ·rw[if_neg q]
    refine ih _ ?_;rw[AU];refine⟨h,by simp,fun a d b hb e=>?_⟩;rw[A3] at hb;subst hb;subst e;exact q d
 exact this l [] A7
def IH{a:Type}[DecidableEq a](l m:List a):(dd (l++m)).length<=(dd l).length+m.length:=by
 have:∀(m acc:List a),(m.foldl (fun acc x=>if x∈acc then acc else acc++[x]) acc).length<=acc.length+m.length:=by
  intro m
  induction m with
  |nil=>intro acc;simp
  |cons x l ih=>
   intro acc;rw[List.foldl_cons];refine AD (ih _) ?_;split
   ·rw[An];omega
   ·rw[Ai,An,An,List.length_nil];omega
 unfold dd;rw[List.foldl_append];exact this m _
def II{a:Type}[DecidableEq a](l:List a)(h:∀(k:Nat) x,l[k]?=some x->x∉l.take k):dd l=l:=by
 have:∀k,k<=l.length->dd (l.take k)=l.take k:=by
  intro k
  induction k with
  |zero=>intro _;rfl
  |succ k ih=>
   intro hk;have hx:l[k]?=some l[k]:=Ae ω;rw[List.take_add_one,hx];show dd (l.take k++[l[k]])=_;rw[nv,ih ω,if_neg (h k _ hx)]
   rfl
 have q:=this l.length (Ag _);rw[Ax (Ag _)] at q;exact q
def IJ{a:Type}[DecidableEq a](l:List a){k:Nat}{x:a}(h:l[k]?=some x)(hx:x∈l.take k):(dd l).length<l.length:=by
 have hk:k<l.length:=(List.getElem?_eq_some_iff.mp h).1;have e:l=(l.take k++[x])++l.drop (k+1):=by
  have:=List.take_append_drop (k+1) l;rw[List.take_add_one,h] at this;exact this.symm
 have h1:=IH (l.take k++[x]) (l.drop (k+1));rw[<-e,nv,if_pos ((fc _ _).mpr hx)] at h1;have h2:=ir (l.take k);rw[Ay] at h2;rw[List.length_drop] at h1;omega
def IK{a:Type}[DecidableEq a](l:List a):(dd l).length<l.length↔∃(k:Nat)(x:a),l[k]?=some x/\x∈l.take k:=by
 constructor
 ·intro h
  apply Classical.byContradiction;intro n;have:=II l fun k x e hx=>n ⟨k,x,e,hx⟩;rw[this] at h;exact Nat.lt_irrefl _ h
 ·rintro⟨k,x,e,hx⟩
  exact IJ l e hx
end STb
end
section
set_option maxHeartbeats 3200000
namespace STb
open PySem PySem.SetTable PyProof.Rows
section
variable{prog:Program}{w:World}{K:Type}[DecidableEq K]{knd:KeyKind prog w K}{A:Around}{R:Result->Shared->Prop}{I:Addr}{fp wr:List Addr}{G:Array GenState->Array GenState->Prop}{n:Nat}{P:Nat->Value->Prop}{St:Nat->Shared->Prop}
def TS.moved{B:List Addr}{h h':Heap}{S:Addr}{o:Obj}{es:Array (Int×Value)}{ep:Nat}{t:SetTable}{ks:List (List K)}(X:TS knd h S o es ep t ks B)(a:h'.get? S=some o)(hk:∀k b,AS knd h k b->AS knd h' k b):TS knd h' S o es ep t ks B:=
 ⟨a,X.ex,X.dt,X.tb,X.sz,X.nd,fun e he=>let ⟨k,b,a1,a2,a3⟩:=X.el e he;⟨k,b,a1,a2,hk k b a3⟩,fun k hk'=>let ⟨b,a1,a2⟩:=X.ke k hk';⟨b,a1,hk k b a2⟩,X.msk,X.ad,X.wk⟩
def IL{h h':Heap}{k:List K}{b:Addr}(hk:AS knd h k b)(e:∀o,h.get? b=some o->h'.get? b=some o):AS knd h' k b:=by
 obtain⟨o,a,n,c,r⟩:=hk;exact⟨o,a,n,e o c,r⟩
def IM{B:List Addr}(W:WalksS prog w A.in1 I fp wr G n P St)(hu:A.in1.units<cLine)(hv:∀k v n,knd.is k v=true->hashByValue n v=pure true)(S:Addr)(p:S∉fp)(vals:List (List K))(adr:Nat->Addr)(hn:vals.length=n)(hB:∀i,i<n->adr i∈B)(hz:n<=59)(nV:∀i v,P i v->v=.ref (adr i))(hna:∀b o,(∃u m,o.cls=Value.type "tuple"/\o.data=.seq u m)->∀s i,St i s->s.heap.get? b=some o->b∉wr):∀(k i:Nat)(s:Shared),n-i=k->i<=n->St i s->(∃o es ep t,TS knd s.heap S o es ep t (dd (vals.take i)) B)->(∀(j:Nat)(x:List K),vals[j]?=some x->AS knd s.heap x (adr j))->
   (∀s',Moved (S::wr) G s s'->(∃o es ep t,TS knd s'.heap S o es ep t (dd vals) B)->R (.ok (.ret .none)) s')->codeAny (model prog w) A (.builtin "set.update.loop" ⟨[.ref S,.ref I],[]⟩) R s:=by
 have f:S∉wr:=fun h=>p (W.sub _ h);have N:∀b∈wr,b∈S::wr:=fun b hb=>Aq _ hb;have y:∀{i:Nat}{s s':Shared}{x:List K}{b:Addr},St i s->Moved wr G s s'->AS knd s.heap x b->AS knd s'.heap x b:=fun{i s s' x b} a hm hk=>by
  obtain⟨o,u,m,M,hc,hd,hi⟩:=id hk;exact⟨o,u,m,hm.heap b o (hna b o ⟨u,m,hc,hd⟩ s i a M) M,hc,hd,hi⟩
 intro k
 induction k with
 |zero=>
  intro i s hk hi a C D hR;have H:i=n:=ω
  subst H;refine A4 F.entry_set_update_loop ?_;rw[AX F.plain_set_update_loop _];show wpAny _ A.in1 (pyNext (.ref I) >>= _) _ _ s;refine Ab (W.done s _ _ a fun s' hm=>?_);show wpAny _ A.in1 (ret Value.none) _ _ s';refine Ac (hR s' (hm.mono N) ?_);obtain⟨o,es,ep,t,X⟩:=C;rw[Ax ω] at X;exact⟨o,es,ep,t,X.moved (hm.heap S _ f X.at_) fun k b hk=>y a hm hk⟩
 |succ k ih=>
  intro i s hk hi a C D hR;have c:i<n:=ω
  refine A4 F.entry_set_update_loop ?_;rw[AX F.plain_set_update_loop _];show wpAny _ A.in1 (pyNext (.ref I) >>= _) _ _ s;refine Ab (W.item i s _ _ c a fun v s' O Q hm=>?_);obtain rfl:=nV i v O;obtain⟨o,es,ep,t,X⟩:=C;have X':TS knd s'.heap S o es ep t (dd (vals.take i)) B:=X.moved (hm.heap S _ f X.at_) fun k b hk=>y a hm hk;have hx:vals[i]?=some vals[i]:=Ae ω;have g:=ir (vals.take i);rw[Ay] at g;show wpAny _ A.in1 (holding [Value.ref (adr i)] (setAdd S (.ref (adr i))) >>= _) _ _ s';refine Ab (AM (IG X' hu hv (y a hm (D i _ hx)) (hB i c) ω fun r h' o' J L t' z E=>?_));have l:s'.toks<=s'.toks+(vals[i].length+1):=Nat.le_add_right _ _;have db:St (i+1) {s' with heap:=h',toks:=s'.toks+(vals[i].length+1)}:=W.frame _ s' _ _ Q l fun b hb T e=>by
   rw[E.2 b (fun h:b=S=>p (by rw[<-h];exact hb))];exact e
  have d:vals.take (i+1)=vals.take i++[vals[i]]:=by rw[List.take_add_one,hx];rfl
  have X3:TS knd h' S o' J L t' (dd (vals.take (i+1))) B:=by
   rw[d,nv]
   by_cases q:vals[i]∈dd (vals.take i)
   ·rw[if_pos q] at z ⊢;exact z
   ·rw[if_neg q] at z ⊢;exact z
  refine Ac ⟨plainId_quiet F.plain_set_update_loop _,ih (i+1) _ ω c db ⟨o',J,L,t',X3⟩ (fun j x U=>jF (y a hm (D j x U)) X'.at_ X'.dt E) fun Y me dA=>?_⟩;refine hR Y (Moved.trans W.gtrans ((hm.mono N).then_heap l fun b T hb e=>?_) me) dA;rw[E.2 b (fun h:b=S=>hb (by rw[h];exact As))];exact e
end
end STb
end
section
namespace STb
open PySem PySem.SetTable PyProof.Rows
section
variable{prog:Program}{w:World}{K:Type}[DecidableEq K]{knd:KeyKind prog w K}{A:Around}{E:Ω}{s:Shared}
def IN(a:Value){Q₁:Ω}(h:Q₁ (.ref s⁻¹) {s with heap:=s.heap.push {cls:=.type "set",dict:=none,data:=.set #[] 0 (.fresh 0 0 (!w.params.followText "set-order"))}}):codeAny (model prog w) A (.call (.builtin "set.__new__") ⟨[.type "set",a],[]⟩) (wants Q₁ E) s:=by
 refine codeAny_of_tree (show wpAny _ A.in1 (do checkBuiltinCall "set.__new__" ⟨[.type "set",a],[]⟩;again (.builtin "set.__new__" ⟨[.type "set",a],[]⟩)) _ _ s from Ab (wpAny_of_eq (F.newCall_set_1 a) (Ac ⟨plainId_quiet F.plain_set_new _,A4 F.entry_set_new ?_⟩)));rw[AX F.plain_set_new _];unfold Builtin.«set.__new__» Builtin.Frozenset.newClass;have b:=sub_set_self;obtain⟨hp,g,d,tk,os⟩:=s;dsimp only;wp_walk;refine wpAny_askSetting (Ac ?_);dsimp only;simp only[newObj];exact Ab (wpAny_alloc (Ac (Ac h)))
def IP{B:List Addr}{l:Addr}{a:Array Value}{vals:List (List K)}{adr:Nat->Addr}{Q:Ω}(hh:A.handled=none)(hl:s.heap.IsList l a)(hu:A.units+64<cLine)(hv:∀k v n,knd.is k v=true->hashByValue n v=pure true)(hz:a.size<=59)(hn:vals.length=a.size)(hB:∀i,i<a.size->adr i∈B)(aO:∀(i:Nat) v,a[i]?=some v->v=.ref (adr i))(hT:∀(j:Nat) x,vals[j]?=some x->AS knd s.heap x (adr j))(h:∀h' tk,(∃o es ep t,TS knd h' s⁻¹ o es ep t (dd vals) B)->(∀b o,b<s⁻¹->s.heap.get? b=some o->h'.get? b=some o)->Q (.ref s⁻¹) {s with heap:=h',toks:=tk}):wpAny (model prog w) A (call (.type "set") [.ref l]) Q E s:=by
 obtain⟨c,tl,gD⟩:=F.called_set.mro;have ja:=F.called_set.made;have a8:=F.called_set.sub;refine wpAny_call (codeAny_of_tree ?_);show wpAny _ _ (callAny (.type "set") _) _ _ _;refine Ac ⟨Code.quiet_builtin _ δ,A4 F.entry_type_call ?_⟩;rw[Around.under_plain (weight_type_call_type "set" [.ref l] []) rfl];have h1:=F.called_set.notType;have h2:=F.called_set.canCreate;have pq:=F.typeCall_set_1 (.ref l)
 repeat(any_goals(first|assumption|wp_step))
 refine codeAny_mono (IN (.ref l) (E:=E) (Q₁:=fun obj D=>∃led:Bool,(w.params.followText "set-order"=true\/led=true)/\obj=.ref s⁻¹/\D={s with heap:=s.heap.push {cls:=.type "set",dict:=none,data:=.set #[] 0 (.fresh 0 0 led)}}) ⟨_,by cases w.params.followText "set-order" <;> simp,rfl,rfl⟩) fun r D hr=>?_;cases r with
 |error e=>exact hr
 |ok fl=>
  cases fl with
  |ret obj=>
   obtain⟨led,N,rfl,rfl⟩:=hr;have I:(s.heap.push {cls:=.type "set",dict:=none,data:=.set #[] 0 (.fresh 0 0 led)}).get? s⁻¹=some {cls:=.type "set",dict:=none,data:=.set #[] 0 (.fresh 0 0 led)}:=Ao _ rfl;have W:Shared.TypeIs {s with heap:=s.heap.push {cls:=.type "set",dict:=none,data:=.set #[] 0 (.fresh 0 0 led)}} (.ref s⁻¹) "set":=⟨_,I,rfl⟩;have tF:=F.called_set.init.lookup;have si:=F.called_set.init.bind (.ref s⁻¹)
   repeat(any_goals(first|assumption|wp_step))
   refine codeAny_mono (codeAny_call_builtin (R:=wants (fun r s₂=>r=.none/\∃h' tk,s₂={s with heap:=h',toks:=tk}/\
     (∃o es ep t,TS knd h' s⁻¹ o es ep t (dd vals) B)/\
     (∀b o,b<s⁻¹->s.heap.get? b=some o->h'.get? b=some o)) E) F.called_set.init.plain F.entry_set_init (check_set_init_1 W ?_)) fun L s₂ u=>?_
   ·obtain⟨O,hol,d,G,H⟩:=hl
    obtain⟨t_,P,qu,S⟩:=O;simp only at d H;subst d;subst H;have X:(s.heap.push {cls:=.type "set",dict:=none,data:=.set #[] 0 (.fresh 0 0 led)}).get? l=some {cls:=.type "list",dict:=P,data:=.seq a G,slots:=S}:=Ad _ hol;have r_:=F.sub_list_set;have uQ:=F.sub_list_frozenset;have Y:(Value.type "list" == Value.type "dict")=false:=ξ
    have f:(s.heap.push {cls:=.type "set",dict:=none,data:=.set #[] 0 (.fresh 0 0 led)}).IsList l a:=⟨_,X,rfl,G,rfl⟩;unfold Builtin.«set.__init__» noKeywords Builtin.Frozenset.updateFrom;generalize hPI:pyIter=PI
    wp_walk
    subst hPI;refine wpAny_pyIter_list f ?_;refine Ab (wpAny_runValue ?_);have J:l<s⁻¹:=Ar hol;have rC:A.in1.in1.in1.handled=none:=by simp[hh]
    have g:l≠(s.heap.push {cls:=.type "set",dict:=none,data:=.set #[] 0 (.fresh 0 0 led)}).objs.size:=by
     rw[Heap.size_push];exact Az (AY J)
    have C:s⁻¹∉[(s.heap.push {cls:=.type "set",dict:=none,data:=.set #[] 0 (.fresh 0 0 led)}).objs.size,l]:=by
     rw[Heap.size_push];simp only[List.mem_cons,A3,List.not_mem_nil,or_false,not_or];exact⟨Az (Nat.lt_succ_self _),Nat.ne_of_gt J⟩
    refine IM (knd:=knd) ((Walks.list rC _ l g a).toS) (by show A.units+1+1+1<cLine;omega) hv s⁻¹ C vals adr hn hB hz (fun i v q=>aO i v q) (fun b o M s' i st e hb=>?hna)
     (a.size-0) 0 _ ω (AL _) ⟨⟨_,Ao _ rfl,rfl,rfl⟩,(f.push _)⟩ ⟨{cls:=.type "set",dict:=none,data:=.set #[] 0 (.fresh 0 0 led)},#[],0,.fresh 0 0 led,?hS0⟩ (fun j x hx=>IL (hT j x hx) fun o e=>Ad _ (Ad _ e)) ?hR
    case hna=>
     obtain⟨⟨oi,e1,e2,_⟩,_⟩:=st;obtain⟨ae,m,hc,_⟩:=M;simp only[A3] at hb;subst hb;have e3:=Am (e1.symm.trans e);rw[<-e3,e2] at hc;exact absurd hc ξ
    case hS0=>
     have p:((s.heap.push {cls:=.type "set",dict:=none,data:=.set #[] 0 (.fresh 0 0 led)}).push {cls:=.type "list_iterator",data:=.fields #[.ref l,.int 0 0]}).get? s⁻¹
      =some {cls:=.type "set",dict:=none,data:=.set #[] 0 (.fresh 0 0 led)}:=Ad _ I
     exact⟨p,⟨rfl,rfl,rfl⟩,rfl,(by simpa using Is 0 0 led),rfl,A7,fun e he=>by simp at he,fun k hk=>by simp[dd] at hk,.inl ⟨rfl,AL _⟩,(fun e he=>by simp at he),N.imp id fun z=>⟨z,rfl⟩⟩
    case hR=>
     intro s' hm y;obtain⟨h',g',d',T,U⟩:=s';have eg:g'=s.gens:=hm.gens;have ed:d'=s.drawn:=hm.drawn;have eo:U=s.os:=hm.os;subst eg;subst ed;subst eo;show wpAny _ _ _ _ _ _;refine Ac ?_;show wpAny _ _ (ret Value.none) _ _ _;refine Ac ⟨rfl,h',T,rfl,y,fun b o hb e=>?_⟩;have bZ:b≠s⁻¹:=Az hb;have cE:b≠(s.heap.push {cls:=.type "set",dict:=none,data:=.set #[] 0 (.fresh 0 0 led)}).objs.size:=by
      rw[Heap.size_push];exact Az (AY hb)
     exact hm.heap b o (by simp only[List.mem_cons,A3,List.not_mem_nil,or_false,not_or];exact⟨bZ,cE⟩) (Ad _ (Ad _ e))
   ·cases L with
    |error e=>exact u
    |ok fl₂=>
     cases fl₂ with
     |ret r=>
      obtain⟨rfl,h',tk,rfl,y,hk'⟩:=u
      repeat(any_goals(first|assumption|wp_step))
      exact h _ _ y hk'
     |_=>exact u.elim
  |_=>exact hr.elim
end
end STb
namespace L2
open PySem PySem.Spec PyProof.Rows
def gk(D:Addr)(n:Nat):HO:=.ext fun h=>∃o es ep t,h.get? D=some o/\o.ExactSet/\o.data=.set es ep t/\t.fits es.size=true/\es.size=n/\n<=100
section
variable{X:Cx}
def IQ{prog:Program}{w:World}:∀(k:Int)(v:Value)(n:Nat),(intKind prog w).is k v=true->hashByValue n v=pure true:=by
 intro k v n h;obtain⟨t,rfl⟩:=Value.isInt_shape h;cases n<;>rfl
def CQ{prog:Program}{w:World}{h:Heap}{c:Addr}{cs:List Value}{a:List Int}(hc:IsTup h c cs.toArray)(hi:IntsAre cs a):AS (intKind prog w) h a c:=by
 obtain⟨o,e,b,k,d⟩:=hc;refine⟨o,cs.toArray,k,e,b,d,?_⟩;have:∀{cs:List Value}{a:List Int},IntsAre cs a->ItemsAre (intKind prog w) a cs:=by
  intro cs a hi
  induction hi with
  |nil=>exact .nil
  |cons n t h ih=>exact .cons (by show Value.isInt n (.int n t)=true;simp[Value.isInt]) ih
 simpa using this hi
def IR(hc:X.calm=true)(hu:X.A.units+64<cLine):df X (.type "set") (fun xs H Q=>∃(l:Addr)(as:List Addr)(pss:Ξ),xs=[.ref l]/\SqL X.K H l (as.map V.ref)/\Tps H as pss/\pss.length<=59/\
  ∀D,H D=none->Q (.ref D) (upd H D (gk D (STb.dd pss).length))):=by
 intro aa s σ H xs us Q I r h;obtain⟨l,as,pss,rfl,hq,hp,hz,q⟩:=h;obtain⟨u,rfl,C⟩:=vals1 r;cases C;obtain⟨E,F,G,_⟩:=I.list hq;obtain rfl:=aQ F;have L:=hp.length;refine STb.IP (B:=as) (knd:=intKind X.prog X.w) (vals:=pss) (adr:=fun i=>as.getD i 0) (I.ok.hd hc) G.isList hu IQ (by rw[Aj,Aa];omega) (by rw[Aj,Aa];omega) (fun i hi=>by rw[Aj,Aa] at hi;rw[List.getD_eq_getElem?_getD,Ae hi];exact A9 hi)
  (fun i v e=>?_) (fun j x e=>?_) fun h' tk ⟨o,es,ep,t,T⟩ g=>?_
 ·have d:(as.map Value.ref)[i]?=some v:=by simpa using e
  rw[Ak] at d;cases c:as[i]? with
  |none=>rw[c] at d;simp at d
  |some a=>
   rw[c] at d;rw[<-Am d,List.getD_eq_getElem?_getD,c]
   rfl
 ·have M:j<as.length:=by rw[L];exact(List.getElem?_eq_some_iff.mp e).1
  have c:as[j]?=some as[j]:=Ae M;obtain⟨N,e1,e2⟩:=hp.get c;rw[e] at e1;obtain rfl:=Am e1;obtain⟨E,J,p2,_⟩:=I.tuple (SqT.of (K:=X.K) e2);rw[List.getD_eq_getElem?_getD,c];exact CQ p2 (intsAre_of J)
 ·have f:=STb.ir pss
  refine⟨.ref s⁻¹,_,I.laid (o:=gk s⁻¹ (STb.dd pss).length) (fun b u e=>g b u (Ar e) e) (Ag _) ?_,rfl,q _ (I.hok.fresh (Ag _))⟩;refine⟨⟨o,es,ep,t,T.at_,T.ex,T.dt,STb.fits_of T.tb,T.sz,ω⟩,⟨o,T.at_⟩,fun h1 h2 ⟨o',p,y,t',g1,g2⟩ z=>⟨o',p,y,t',z _ g1,g2⟩⟩
def IS:df X (.builtin "len") (fun xs H Q=>∃D n,xs=[.ref D]/\H D=some (gk D n)/\Q (.int n) H):=by
 intro aa s σ H xs us Q I r h;obtain⟨D,n,rfl,hq,q⟩:=h;obtain⟨u,rfl,a⟩:=vals1 r;cases a;obtain⟨⟨o,es,ep,t,h1,h2,h3,b,h5,c⟩,_⟩:=(show zJ X.prog X.w H s.heap D (gk D n) from I.hok D _ hq);exact call_len_set h1 h2 h3 b ω ⟨.int n,H,I.tok _,⟨_,by rw[h5]⟩,q⟩
end
end L2
end
section
namespace Spl
open PySem PySem.Spec PySem.Builtin PySem.Builtin.Str PyProof.Rows
section
variable{prog:Program}{w:World}{A:Around}{E:Ω}{s:Shared}{x y:PySem.Str}{t u:Tok}{Q:Ω}
def split1(hy:(y.length==0)=false)(h:∀(l:List (PySem.Str×Tok)) k,l.map (·.1)=Txt.split x y->Q (.ref s⁻¹) {s with heap:=s.heap.push {cls:=.type "list",data:=.seq (strValues l).toArray},toks:=k})(hsz:x.length+2<=sizeLine):wpAny (model prog w) A (call (.builtin "str.split") [.str x t,.str y u]) Q E s:=by
 have hn:(partsBetween x (occurrences x y 0 x.length (x.length+1)) y.length).length<=sizeLine:=by
  have e1:=StrLaws.occ_length_le x y 0 x.length (x.length+1);rw[length_partsBetween];omega
 cases h1:(decide (x.length<y.length)|| decide (strKind x<strKind y))
 ·cases hf:(occurrences x y 0 x.length (x.length+1)).isEmpty
  ·refine call_meets F.slot_str_split (typeIs_str _ _ _) F.entry_str_split (F.args_str_split_2 _ _) (meets_str_split_sep x y t u h1 hy hf ω hn) ?_
   show wants Q E _ {s with toks:=_,heap:=s.heap.push {cls:=.type "list",data:=.seq (strsFrom s.toks (partsBetween x (occurrences x y 0 x.length (x.length+1)) y.length)).toArray}};rw[strsFrom_eq];exact h (numbered s.toks _) _ ((numbered_texts _ _).trans ((if_neg (ne_true_of_eq_false h1)).trans (if_neg (ne_true_of_eq_false hf))).symm)
  ·exact call_meets F.slot_str_split (typeIs_str _ _ _) F.entry_str_split (F.args_str_split_2 _ _) (meets_str_split_not_found x y t u h1 hy hf)
    (h [(x,t)] s.toks ((if_neg (ne_true_of_eq_false h1)).trans (if_pos hf)).symm)
 ·exact call_meets F.slot_str_split (typeIs_str _ _ _) F.entry_str_split (F.args_str_split_2 _ _) (meets_str_split_cannot_occur x y t u h1)
   (h [(x,t)] s.toks (if_pos h1).symm)
end
end Spl
namespace L2
open PySem PySem.Spec PyProof.Rows
section
variable{X:Cx}
def CS:∀(l:List (PySem.Str×Tok)),Vals ((l.map (·.1)).map V.str) (strValues l)
 |[]=>.nil
 |p::l=>.cons ⟨p.2,rfl⟩ (CS l)
def znE:V->List V->Hp->VK->Prop:=fun x vs H Q=>∃z y,x=.str z/\vs=[.str y]/\(y.length==0)=false/\z.length+2<=sizeLine/\(Txt.split z y).length<=sizeLine/\∀D,H D=none->Q (.ref D) (upd H D (.lst ((Txt.split z y).map V.str)))
def IT:pF X "str.split" znE:=by
 intro aa s σ H x vs v us Q I a c h;obtain⟨z,y,rfl,rfl,hy,hz,hl,q⟩:=h;obtain⟨t,rfl⟩:=a;obtain⟨u,rfl,d⟩:=c.one;obtain⟨t',rfl⟩:=d;refine Spl.split1 hy (fun l k e=>?_) hz;refine⟨.ref s⁻¹,_,I.laid (t':=k) (o:=.lst ((Txt.split z y).map V.str)) (fun b ob q=>Ad _ q) (Ag _) ?_,rfl,q _ (I.hok.fresh (Ag _))⟩;refine⟨by rw[Aa];exact hl,strValues l,0,?_,Ao _ rfl⟩;rw[<-e];exact CS l
def qg(x:PySem.Str):It:=⟨fun i _=>i<x.cps.size,fun i H v H'=>H'=H/\∃c,x.cps[i]?=some c/\v=.str ⟨#[c]⟩,fun i _=>i=x.cps.size⟩
def CT{P:Program}{w:World}{K:Af}{tg:Expr}(x:PySem.Str)(it:Addr)(T:String)(hn:["enumerate","zip","dict_itemiterator","dict_reverseitemiterator","odict_iterator","itertools.zip_longest","itertools.pairwise"].contains T=false)(t:Tok)(W:∀A':Around,A'.handled=none->Walks P w A' it [it] [it] x.cps.size (SignAt x) (fun i h=>h.IsStrIter it T x t i))(C:∀(A:Around)(i:Nat)(s:Shared)(Q:Ω)(E:Ω),s.heap.IsStrIter it T x t i->Q (.ref it) s->wpAny (model P w) A (pyIter (.ref it)) Q E s):Turn P w K tg (qg x) [it] it (fun i h=>h.IsStrIter it T x t i) where
 mem:=by simp
 obj:=fun i h st b hb=>by
  have e:b=it:=by simpa using hb
  subst e;obtain⟨o,e,c,d⟩:=st;exact⟨o,e,fun v z=>by rw[d] at z;cases z⟩
 keep:=fun i h h' st k=>by
  obtain⟨o,e,c⟩:=st;exact⟨o,k it (by simp) o e,c⟩
 item:=by
  intro X a hw f hc i aa s σ H E I hf st g;subst a hw f;obtain⟨l,f1,f2,p,q,f5⟩:=hf it (by simp);refine(W X.A (I.ok.hd hc)).item i s _ _ g st fun v h' tk y r j=>?_;obtain⟨c,u,hx,rfl⟩:=y;have D:Inv X aa σ H {s with heap:=h',toks:=tk}:=I.turned (fun b o hb e=>j b o (by simpa using hb) e) l f1 p q f5;obtain⟨o,e1,e2,e3⟩:=id r;exact⟨_,rfl,l8 (s:={s with heap:=h',toks:=tk}) e1 e2 e3 hn ⟨.str ⟨#[c]⟩,H,D,⟨u,rfl⟩,⟨rfl,c,hx,rfl⟩,r,fun b hb=>(hf b hb).1⟩⟩
 done:=by
  intro X a hw f hc i aa s σ H E I hf st g;subst a hw f;obtain⟨l,f1,f2,p,q,f5⟩:=hf it (by simp);have hi:i=x.cps.size:=g;subst hi;exact(W X.A (I.ok.hd hc)).done s _ _ st fun h' tk j=>⟨rfl,I.turned (fun b o hb e=>j b o (by simpa using hb) e) l f1 p q f5⟩
 self:=C
def xF(te:TE):TI:=fun σ H R=>te σ H fun v H1=>∃x,v=.str x/\R (qg x) H1
def IU{tg l:Expr}{tl:TE}(hl:PE X l tl):PI X tg l (xF tl):=by
 intro aa s σ H R I h;refine aP (hl aa s σ H _ I h) fun v a ⟨x,H1,I1,d,f⟩=>?_;obtain⟨z,e,q⟩:=f;subst e;obtain⟨t,rfl⟩:=d;have fin:∀(o:Obj),Inv X aa σ H1 {a with heap:=a.heap.push o}:=fun o=>I1.kept (t':=a.toks) fun b o e=>Ad _ e;have fp:∀b∈[a⁻¹],bm X aa H1 b:=fun b hb=>by
  have e:b=a⁻¹:=by simpa using hb
  subst e;exact I1.fpOk (Ag _) (I1.hok.fresh (Ag _))
 cases ha:z.cps.all (·<128)
 ·refine wpAny_pyIter_wide ha ?_
  exact⟨a⁻¹,[a⁻¹],_,_,H1,rfl,fin _,CT z _ "str_iterator" ξ t (fun g c=>Walks.strWide c _ z t) (fun A i s Q E st h=>wpAny_pyIter_striter_wide st h),⟨_,Ao _ rfl,rfl,rfl⟩,fp,q⟩
 ·refine wpAny_pyIter_ascii ha ?_
  exact⟨a⁻¹,[a⁻¹],_,_,H1,rfl,fin _,CT z _ "str_ascii_iterator" ξ t (fun g c=>Walks.strAscii c _ z t) (fun A i s Q E st h=>wpAny_pyIter_striter_ascii st h),⟨_,Ao _ rfl,rfl,rfl⟩,fp,q⟩
def IV{g:TG}{tc:TT}{te:TE}{σ:St}{H1:Hp}{Q:VK}{D:Addr}{x:PySem.Str}(a:Nat->St->List V->Hp->Prop)(h:a 0 σ [] (upd H1 D (.lst [])))(hs:∀i σ ys H c,x.cps[i]?=some c->i<x.cps.size->ys.length<=i->a i σ ys H->g (.str ⟨#[c]⟩) σ H fun d j=>tc d j fun b f=>if b=true then te d f (dX x.cps.size a D i d) else cM x.cps.size a i d f)(hd:∀σ ys H,a x.cps.size σ ys H->Q (.ref D) H):cg (qg x) g tc te σ H1 D Q:=by
 refine m6 x.cps.size a h (fun σ ys H p=>rfl) (fun i σ ys H hi p=>hi) (fun i σ ys H v H' hi hy p y=>?_) hd;obtain⟨e,c,hc,rfl⟩:=y;subst e;exact hs i σ ys _ c hc hi hy p
end
end L2
end
section
namespace K1
open STb
def subs(ps:List Int):Ξ:=ps.foldl (fun a x=>a++a.map (·++[x])) [[]]
def parts(ps:List Int):Ξ:=(subs ps).drop 1
def xI(ps:List Int)(x:Int):subs (ps++[x])=subs ps++(subs ps).map (·++[x]):=by unfold subs;rw[List.foldl_append];rfl
def qj(ps:List Int):(subs ps).length=2 ^ ps.length:=by
 have:∀(ps:List Int)(acc:Ξ),(ps.foldl (fun a x=>a++a.map (·++[x])) acc).length=acc.length*2 ^ ps.length:=by
  intro ps
  induction ps with
  |nil=>intro acc;simp
  |cons x ps ih=>
   intro acc;rw[List.foldl_cons,ih,Ai,Aa,An,Nat.pow_succ];rw[<-Nat.two_mul,Nat.mul_comm 2,Nat.mul_assoc,Nat.mul_comm 2]
 simpa[subs] using this ps [[]]
def xJ(ps:List Int):∃t,subs ps=[]::t/\∀q∈t,q≠[]:=by
 have:∀(ps:List Int)(acc:Ξ),(∃t,acc=[]::t/\∀q∈t,q≠[])->∃t,ps.foldl (fun a x=>a++a.map (·++[x])) acc=[]::t/\∀q∈t,q≠[]:=by
  intro ps
  induction ps with
  |nil=>intro acc h;exact h
  |cons x ps ih=>
   rintro acc ⟨t,rfl,h⟩;rw[List.foldl_cons];refine ih _ ⟨t++([]::t).map (·++[x]),rfl,fun q hq=>?_⟩;rcases List.mem_append.mp hq with hq|hq
   ·exact h q hq
   ·obtain⟨r,_,rfl⟩:=List.mem_map.mp hq
    simp
 exact this ps [[]] ⟨[],rfl,fun q hq=>nomatch hq⟩
def IW(ps:List Int):(subs ps).filter (fun q=>!decide (q=[]))=parts ps:=by
 obtain⟨t,e,h⟩:=xJ ps;unfold parts;rw[e];show List.filter _ ([]::t)=t;rw[List.filter_cons,if_neg (by simp)];exact List.filter_eq_self.mpr fun q hq=>by simp[h q hq]
def la(ps:List Int):(parts ps).length=2 ^ ps.length-1:=by unfold parts;rw[List.length_drop,qj]
def CU(ps:List Int):∀q∈subs ps,q.length<=ps.length:=by
 have:∀(ps:List Int)(acc:Ξ)(n:Nat),(∀q∈acc,q.length<=n)->∀q∈ps.foldl (fun a x=>a++a.map (·++[x])) acc,q.length<=n+ps.length:=by
  intro ps
  induction ps with
  |nil=>intro acc n h q hq;simpa using h q hq
  |cons x ps ih=>
   intro acc n h q hq;rw[List.foldl_cons] at hq;have:=ih _ (n+1) (fun r hr=>by
    rcases List.mem_append.mp hr with hr|hr
    ·exact Nat.le_succ_of_le (h r hr)
    ·obtain⟨u,hu,rfl⟩:=List.mem_map.mp hr
     rw[Ai];exact Nat.succ_le_succ (h u hu)) q hq
   rw[An];omega
 intro q hq;have:=this ps [[]] 0 (fun r hr=>by simp at hr;subst hr;exact Ag _) q hq;omega
def aT:List Int->Bool
 |a::b::r=>decide (a<b)&&aT (b::r)
 |_=>true
def CV:∀ps:List Int,((ps.zip (ps.drop 1)).map fun p=>decide (p.1<p.2)).all id=aT ps
 |[]=>rfl
 |[_]=>rfl
 |a::b::r=>by
  have:=CV (b::r);unfold aT;rw[<-this]
  rfl
def xL:∀ps:List Int,aT ps=true↔∀(i:Nat) a b,ps[i]?=some a->ps[i+1]?=some b->a<b
 |[]=>by simp[aT]
 |[x]=>by simp[aT]
 |x::y::r=>by
  unfold aT;rw[AI,decide_eq_true_eq,xL (y::r)];constructor
  ·rintro⟨h1,h2⟩ i a b c hb
   cases i with
   |zero=>simp at c hb;subst c hb;exact h1
   |succ i=>exact h2 i a b (by simpa using c) (by simpa using hb)
  ·intro h
   exact⟨h 0 x y rfl rfl,fun i a b c hb=>h (i+1) a b (by simpa using c) (by simpa using hb)⟩
def CW(ps:List Int)(h:aT ps=true):∀(d i:Nat) a b,ps[i]?=some a->ps[i+d]?=some b->a<=b:=by
 intro d
 induction d with
 |zero=>intro i a b c hb;rw[Nat.add_zero,c] at hb;cases hb;exact Int.le_refl _
 |succ d ih=>
  intro i a b c hb;have hl:i+(d+1)<ps.length:=(List.getElem?_eq_some_iff.mp hb).1;have hc:ps[i+d]?=some ps[i+d]:=Ae ω;have h1:=ih i a _ c hc;have h2:=(xL ps).mp h (i+d) _ b hc hb;omega
def zV(ps:List Int):Bool:=decide (1<=ps.length)&&decide (ps.length<=5)&&!(decide (ps.headD 0<0))&&!(decide (99<ps.getLastD 0))&&aT ps
def zS(ps:List Int):Bool:=decide (1<=ps.length)&&decide (ps.length<=5)&&ps.all (fun p=>decide (0<=p)&&decide (p<=99))&&aT ps
def CY(ps:List Int):zV ps=zS ps:=by
 unfold zV zS;cases ps with
 |nil=>rfl
 |cons x r=>
  by_cases hr:aT (x::r)=true
  ·rw[hr,Bool.and_true,Bool.and_true]
   by_cases h5:(x::r).length<=5
   ·have e1:(x::r).getLastD 0=(x::r)[(x::r).length-1]:=by
     rw[List.getLastD_eq_getLast?,List.getLast?_eq_getElem?,Ae (by simp)];rfl
    have key:(!(decide ((x::r).headD 0<0))&&!(decide (99<(x::r).getLastD 0)))=(x::r).all (fun p=>decide (0<=p)&&decide (p<=99)):=by
     rw[Bool.eq_iff_iff];rw[AI,Bool.not_eq_true',Bool.not_eq_true',decide_eq_false_iff_not,decide_eq_false_iff_not,List.all_eq_true];constructor
     ·rintro⟨a,b⟩ p hp
      obtain⟨i,hi⟩:=List.mem_iff_getElem?.mp hp;have c:i<(x::r).length:=(List.getElem?_eq_some_iff.mp hi).1;have g1:=CW (x::r) hr i 0 x p rfl (by simpa using hi);have g2:=CW (x::r) hr ((x::r).length-1-i) i p ((x::r)[(x::r).length-1]) hi (by
       rw[show i+((x::r).length-1-i)=(x::r).length-1 from ω];exact Ae (by simp))
      rw[e1] at b;have d:¬x<0:=a;simp only[AI,decide_eq_true_eq];constructor<;>omega
     ·intro h
      have g1:=h x As;have g2:=h ((x::r)[(x::r).length-1]) (A9 _);rw[e1];simp only[AI,decide_eq_true_eq] at g1 g2;constructor
      ·show ¬x<0;omega
      ·omega
    rw[<-key];simp only[Bool.and_assoc]
   ·rw[decide_eq_false h5];simp
  ·have:aT (x::r)=false:=by simpa using hr
   rw[this,Bool.and_false,Bool.and_false]
def bO(pss:Ξ):Bool:=decide (pss.length<=20)&&pss.all zV&&!(decide ((dd pss).length<pss.length))&&decide ((dd (pss.flatMap parts)).length<=200)
def CZ(pss:Ξ)(k:Nat):Prop:=∀(i:Nat) ps,i<k->pss[i]?=some ps->ps∉pss.take i/\zS ps=true
def IX(pss:Ξ)(h:pss.length<=20)(a:CZ pss pss.length):bO pss=decide ((dd (pss.flatMap parts)).length<=200):=by
 unfold bO;have h1:pss.all zV=true:=List.all_eq_true.mpr fun ps hp=>by
  obtain⟨i,hi⟩:=List.mem_iff_getElem?.mp hp;rw[CY];exact(a i ps (List.getElem?_eq_some_iff.mp hi).1 hi).2
 have h2:¬(dd pss).length<pss.length:=fun z=>by
  obtain⟨k,x,e,hx⟩:=(IK pss).mp z;exact(a k x (List.getElem?_eq_some_iff.mp e).1 e).1 hx
 rw[decide_eq_true h,h1,decide_eq_false h2]
 rfl
def IY(pss:Ξ)(h:¬pss.length<=20):bO pss=false:=by unfold bO;rw[decide_eq_false h];rfl
end K1
end
section
namespace L2
open PySem PySem.Spec PyProof.Rows
def iu(N N':List Str)(av:List (Option Nat))(scope:Scope):Bool:=decide (av.length=N'.length)&&(av.zip N').all fun p=>match p.1 with
 |none=>true
 |some j=>decide (N[j]?=some p.2)&&decide (scope.names.lookup p.2=some .free)
def C0{N N':List Str}{av:List (Option Nat)}{scope:Scope}(h:iu N N' av scope=true):mZ N N' av scope:=by
 unfold iu at h;rw[AI,decide_eq_true_eq,List.all_eq_true] at h;refine⟨h.1,fun i j e=>?_⟩;have hi:i<av.length:=(List.getElem?_eq_some_iff.mp e).1;have e2:N'[i]?=some N'[i]:=Ae (by rw[<-h.1];exact hi);have:=h.2 (some j,N'[i]) (List.mem_iff_getElem?.mpr ⟨i,by rw[bD.bw,e,e2];rfl⟩);simp only[AI,decide_eq_true_eq] at this;exact⟨N'[i],e2,this.1,this.2⟩
section
variable{X:Cx}{scope:Scope}{av:List (Option Nat)}{tg iter bJ:Expr}{aZ:List Expr}{wi:TI}{g:TG}{tc:TT}{te:TE}{pos:Pos}
def zw(N N':List Str)(av:List (Option Nat))(hi:PI X tg iter wi)(b:∀a C s₀ H₀ ex,PG (gh X scope N' a C s₀ H₀ ex) tg g)(c:∀a C s₀ H₀ ex,io (gh X scope N' a C s₀ H₀ ex) aZ tc)(he:∀a C s₀ H₀ ex,PE (gh X scope N' a C s₀ H₀ ex) bJ te)(hc:X.calm=true:=by rfl)(hk:scope.kind=.function:=by rfl)(d:∀y∈scope.names,y.2≠.cell:=by decide +kernel)(e:∀y∈scope.names,y.2=.free->scope.names.lookup y.1=some .free:=by decide +kernel)(f:∀y∈scope.names,y.2=.local->scope.names.lookup y.1=some .local:=by decide +kernel)(hfr:∀y∈scope.names,y.2=.free->X.env.kindOf y.1=some .cell\/X.env.kindOf y.1=some .free)(h:X.N=N:=by rfl)(i:iu N N' av scope=true:=by decide +kernel)(hs:∀x,foldedSetIterable iter X.env x=pure x:=by intro _;rfl):PE X (.ListComp bJ [⟨tg,iter,aZ,0⟩] scope pos) (jz wi av g tc te):=
 Hz hc hk d e f hfr (C0 (by rw[h];exact i)) hi b c he hs
end
def c_{env:Env}{scope:Scope}(h:scope.names.all (fun y=>decide (y.2≠.free))=true):∀y∈scope.names,y.2=.free->env.kindOf y.1=some .cell\/env.kindOf y.1=some .free:=fun y hy e=>
 absurd e (of_decide_eq_true (List.all_eq_true.mp h y hy))
def ci{env:Env}{scope:Scope}(a:Scope)(h:scope.names.all (fun y=>decide (y.2≠.free)|| decide (a.names.lookup y.1=some .cell)|| decide (a.names.lookup y.1=some .free))=true)(b:env.scope=a:=by rfl):∀y∈scope.names,y.2=.free->env.kindOf y.1=some .cell\/env.kindOf y.1=some .free:=fun y hy e=>by
 subst b;have:=List.all_eq_true.mp h y hy;simp only[Bool.or_eq_true,decide_eq_true_eq] at this;rcases this with (q|q)|q
 ·exact absurd e q
 ·exact .inl q
 ·exact .inr q
def cF(l:List Str)(h:l.Nodup:=by decide +kernel):l.Nodup:=h
def ny{te:TE}{σ:St}{H:Hp}{P:VK}{S:Hp->Prop}(h:te σ H P):ce σ H fun b a=>if b=true then te σ a P else S a:=by
 show if true=true then te σ H P else S H;rw[if_pos rfl];exact h
def cR{i:Nat}{v:V}{te:TE}{σ:St}{H:Hp}{P:St->VK}{S:St->Hp->Prop}(h:te (σ.set i (some v)) H (P (σ.set i (some v)))):cn i v σ H fun a d=>ce a d fun b c=>if b=true then te a c (P a) else S a c:=ny (S:=S (σ.set i (some v))) h
def zF{J:It}{g:TG}{tc:TT}{te:TE}{σ:St}{H1:Hp}{Q:VK}{D:Addr}(h:cg J g tc te σ H1 D Q):cg J g tc te σ H1 D Q:=h
def Paired.of_at{c d:Type}{R:c->d->Prop}:∀{l:List c}{m:List d},l.length=m.length->(∀(i:Nat) x y,l[i]?=some x->m[i]?=some y->R x y)->Paired R l m
 |[],[],_,_=>.nil
 |x::l,y::m,h,f=>.cons (f 0 x y rfl rfl) (Paired.of_at (by simpa using h) fun i a b h1 h2=>f (i+1) a b (by simpa using h1) (by simpa using h2))
 |[],_::_,h,_=>by simp at h
 |_::_,[],h,_=>by simp at h
end L2
end
section
namespace HT
open PySem PyProof.Rows
section
variable{prog:Program}{w:World}{A:Around}{E:Ω}{s:Shared}
def IZ{t c:Addr}{a:Array Value}{d e:Value}{lo hi:Option Int}{Q:Ω}(b:IsTup s.heap t a)(hs:s.heap.IsSliceOf c d e .none)(j:IsPart d lo)(l:IsPart e hi)(hw:sIx a.size 0 lo=0/\sIx a.size a.size hi=a.size)(h:Q (.ref t) s):wpAny (model prog w) A (getItem (.ref t) (.ref c)) Q E s:=by
 obtain⟨os,f,hcs,o⟩:=id hs;have g:s.TypeIs (.ref c) "slice":=⟨os,f,hcs⟩;obtain⟨p,q,r,u,v⟩:=id b;unfold getItem
 try with_reducible refine AM ?_
 first|refine Ab (Ac ?_)|skip
 refine Ab (wpAny_sequenceKey b.typeIs ξ ?_);refine Ab (wpAny_callSpecial?_slot (name:=Str.ofString "__getitem__") b.typeIs PyProof.Rows.slot_tuple_getitem
  (wpAny_call_entry PyProof.Rows.slot_tuple_getitem b.typeIs entry_tuple_getitem ?_ (args_tuple_getitem _ _)))
 show wpAny _ _ (Builtin.Tuple.tupleItemsOf (.ref t) >>= _) _ _ s;refine Ab (tupleItemsOf_ b ?_);refine Ab (wpAny_typeOf g ?_);rw[if_pos ξ];refine Ab (BL hs j l ?_);have i:((((sIx a.size 0 lo:Nat):Int)==0&&(1:Int)==1&&(sIx a.size a.size hi-sIx a.size 0 lo)==a.size)=true):=by
  rw[hw.1,hw.2];simp
 show wpAny _ _ (if(((sIx a.size 0 lo:Nat):Int)==0&&(1:Int)==1&&(sIx a.size a.size hi-sIx a.size 0 lo)==a.size)=true then _ else _) _ _ s;rw[if_pos i];refine Ab ?_;unfold Builtin.Tuple.tupleIsExact;refine Ab (wpAny_typeOf b.typeIs (Ac ?_));rw[if_pos ξ];refine Ab (wpAny_rule ?_);exact Ac ⟨_,rfl,Ac h⟩
end
end HT
namespace L2
open PySem PySem.Spec PyProof.Rows
section
variable{X:Cx}
def jG:V->Option Int->Option Int->Hp->VK->Prop:=fun x lo hi H Q=>∃a xs,x=.ref a/\H a=some (.tup xs)/\∀p H',Same H H'->H' p=some (.tup (ca xs lo hi))->Q (.ref p) H'
def qm:pE X jG:=by
 intro aa s σ H x v g i lo hi j Q I c hs d e h;obtain⟨a,xs,rfl,hx,q⟩:=h
 by_cases hw:HT.sIx xs.length 0 lo=0/\HT.sIx xs.length xs.length hi=xs.length
 ·cases c
  obtain⟨l,r,f,hz⟩:=I.tuple (SqT.of (K:=X.K) hx);have b:l.toArray.size=xs.length:=by rw[Aj];exact r.length.symm
  refine⟨"tuple",_,PyProof.Rows.slot_tuple_getitem.lookup,f.typeIs,HT.IZ f hs d e (by rw[b];exact hw) ⟨.ref a,H,I,rfl,q a H (Same.refl H) ?_⟩⟩;rw[hx];unfold ca;rw[hw.1,hw.2,List.drop_zero,Nat.sub_zero,Ax (Ag _)]
 ·exact BN aa s σ H (.ref a) v g i lo hi j Q I c hs d e ⟨a,xs,rfl,SqT.of hx,hw,fun p hp=>q p _ (Same.new hp) za⟩
end
end L2
end
section
namespace K50
open K1
open PySem L2
def top(i:Nat):Stmt:=PySem.Challenge.pw_seamwright_k50_whole_pushed_webs_keep_th.main.body.getD i (.Pass ⟨0,0,0,0⟩)
abbrev qo:Stmt:=top 8
abbrev lc:Stmt:=top 9
abbrev d0:Stmt:=top 11
abbrev li:Stmt:=top 12
abbrev sAll:Stmt:=top 13
abbrev qp:Stmt:=top 18
structure Bt(mg:Str->Option Value):Prop where
 len:mg "len"=none
 all:mg "all"=none
 zip:mg "zip"=none
 sorted:mg "sorted"=none
 set:mg "set"=none
 list:mg "list"=none
 tuple:mg "tuple"=none
 range:mg "range"=none
 enumerate:mg "enumerate"=none
 int:mg "int"=none
 isinstance:mg "isinstance"=none
 reversed:mg "reversed"=none
 bool:mg "bool"=none
def cH:A5 "len"=some (.builtin "len"):=δ
def C1:A5 "all"=some (.builtin "all"):=δ
def I0:A5 "zip"=some (.type "zip"):=δ
def xM:A5 "sorted"=some (.builtin "sorted"):=δ
def I_:A5 "set"=some (.type "set"):=δ
def du:A5 "list"=some (.type "list"):=δ
def xN:A5 "tuple"=some (.type "tuple"):=δ
def Ja:A5 "int"=some (.type "int"):=δ
def zf{n:Nat}(h:n<=100000):n<=sizeLine:=by rw[sizeLine_eq];omega
def zM{n:Nat}(h:n<=100000):n<sizeLine:=by rw[sizeLine_eq];omega
def Jb(x:Int)(r:List Int):ew ((x::r).map V.int) (-1)=some (.int ((x::r).getLastD 0)):=by
 obtain⟨q,z,e⟩:∃q z,x::r=q++[z]:=⟨(x::r).dropLast,(x::r).getLast (List.cons_ne_nil x r),(List.dropLast_concat_getLast (List.cons_ne_nil x r)).symm⟩;rw[e,Ah,List.getLastD_eq_getLast?,List.getLast?_append];exact GO _ _
def nA{ps:List Int}{i:Nat}{x:V}(h:(ps.map V.int)[i]?=some x):∃p,ps[i]?=some p/\x=.int p:=by
 rw[Ak] at h;cases e:ps[i]? with
 |none=>rw[e] at h;cases h
 |some p=>rw[e] at h;exact⟨p,rfl,(Am h).symm⟩
def zD{as:List Addr}{i:Nat}{x:V}(h:(as.map V.ref)[i]?=some x):∃a,as[i]?=some a/\x=.ref a:=by
 rw[Ak] at h;cases e:as[i]? with
 |none=>rw[e] at h;cases h
 |some p=>rw[e] at h;exact⟨p,rfl,(Am h).symm⟩
def AF{a:Type}{l:List a}{i:Nat}{x:a}(h:l[i]?=some x):l.take (i+1)=l.take i++[x]:=by rw[List.take_add_one,h];rfl
def take_all{a:Type}(l:List a):l.take l.length=l:=Ax (Ag _)
def xO(x:Int)(r:List Int):ca ((x::r).map V.int) (some 1) none=r.map V.int:=by
 unfold ca;have e:HT.sIx ((x::r).map V.int).length 0 (some 1)=1:=by
  have:=HT.ms ((x::r).map V.int).length 0 1;rw[show((1:Nat):Int)=1 from rfl] at this;rw[this,Aa,An];omega
 rw[e,HT.pD];show List.take _ (r.map V.int)=_;rw[Ax (by simp)]
section
variable{P:Program}{w:World}{K:Af}{mg:Str->Option Value}{base:Heap}
def C2:Sp:=fun vs H Q _=>∃a ps,vs=[.ref a]/\Tp H a ps/\∀H',Same H H'->Q (.bl (zV ps)) H'
def Jc:zq ["numbers"] ["numbers"] (zh qo):=⟨rfl,rfl,rfl,δ,rfl,δ,δ⟩
def Jd{f:Addr}{fd:FuncData}{W X:Tok}(F:Fun K "is_piece" "is_piece" qo f fd)(B:Bt mg)(Y:mg "MOST_POINTS"=some (.int 5 W))(lZ:mg "LAST_POINT"=some (.int 99 X)):FnOk P w K mg base aJ 1 f fd ["numbers"] C2:=by
 refine F.ok Jc (fun vs H Q E h=>?_) (fun cdv A outer s H vs Q E hr h=>?_)
 ·obtain⟨a,ps,rfl,_⟩:=h;rfl
 ·obtain⟨a,ps,rfl,l,k⟩:=h
  refine⟨_,zd (cY (tQ (Gz uS uS zi (zl zj rfl B.len cH (zb (pv 0) zc)) (o6 rfl Y (v:=.int 5) ⟨_,rfl⟩))) (zg (zu fA)) zE)
   (zd (cY (PW.pt (Bj (zt pw (cd eT (pv 0) zi (fun _ _=>rfl)) zi (ao _)) (Bi (zt uW (cd eT (pv 0) (Gu Gw zi) (fun _ _=>rfl)) (o6 rfl lZ (v:=.int 99) ⟨_,rfl⟩) (ao _))))) (zg (zu fA)) zE)
   (zg (zu (zl (Cm rfl) rfl B.all C1 (zb
    (zw ["numbers"] ["low","high"] [none,none] (HL rfl B.zip I0 (zb (pv 0) (zb (kJ BN (pv 0) (ic zi) ia) zc)))
     (fun J C s₀ H₀ ex=>F' rfl (Bk (zk (i:=0) (cF ["low","high"]) rfl (Or.inl rfl)) (Bk (zk (i:=1) (cF ["low","high"]) rfl (Or.inl rfl)) F_)))
     (fun J C s₀ H₀ ex=>eX) (fun J C s₀ H₀ ex=>Bz pw (pv 0) (pv 1) (ao _)) (hfr:=c_ δ) (g:=l3 K 2 (uj (cn 0) (uj (cn 1) l0)))) zc))))),?_⟩
  have u:zV ps=false->Q (.bl false) H:=fun e=>by have:=k H (Same.refl H);rw[e] at this;exact this
  refine⟨_,rfl,a,_,rfl,.inr (SqT.of l),_,_,rfl,rfl,_,rfl,?_⟩;rw[Aa];refine dr (fun h1=>?_) (fun h1=>?_)
  ·refine⟨_,_,rfl,rfl,_,rfl,?_⟩
   have c:1<=ps.length:=by have:=of_decide_eq_true h1;omega
   cases h5:decide ((ps.length:Int)<=5) with
   |false=>
    have d:¬ps.length<=5:=by have:=of_decide_eq_false h5;omega
    exact bb (u (by unfold zV;rw[decide_eq_false d];simp))
   |true=>
    have d:ps.length<=5:=by have:=of_decide_eq_true h5;omega
    refine aW ?_;obtain⟨x,r,rfl⟩:∃x r,ps=x::r:=by
     cases ps with
     |nil=>simp at c
     |cons x r=>exact⟨x,r,rfl⟩
    refine⟨_,rfl,a,_,_,_,rfl,rfl,SqT.of l,zy (j:=0) rfl,_,_,rfl,rfl,_,rfl,?_⟩;refine dr (fun hx=>?_) (fun hx=>?_)
    ·refine bb (u ?_)
     unfold zV;rw[show decide ((x::r).headD 0<0)=true from hx];simp
    ·refine⟨_,rfl,_,rfl,a,_,_,_,rfl,rfl,SqT.of l,Jb x r,_,_,rfl,rfl,_,rfl,?_⟩
     cases hl:decide (99<(x::r).getLastD 0) with
     |true=>
      refine bb (u ?_);unfold zV;rw[hl];simp
     |false=>
      refine aW ?_;refine⟨_,rfl,_,rfl,_,rfl,a,_,rfl,SqT.of l,?_,fun p hp=>?_⟩
      ·intro z
       have e:=HT.ms ((x::r).map V.int).length 0 1;rw[show((1:Nat):Int)=1 from rfl,z.1,Aa,An] at e;omega
      ·rw[xO]
       have I:Same H (upd H p (.tup (r.map V.int))):=Same.new hp;refine⟨a,p,rfl,⟨_,SqT.of (I.tp l)⟩,⟨_,SqT.of za⟩,fun D L=>?_⟩;have hm:min ((x::r).map V.int).length (r.map V.int).length=r.length:=by simp
       refine zF (HN (K:=K) (xs:=(x::r).map V.int) (ys:=r.map V.int) (fun i σ zs o=>∃y G,σ=[y,G]/\Same (upd H p (.tup (r.map V.int))) o/\o D=some (.lst zs)/\zs=((((x::r).zip r).map fun q=>decide (q.1<q.2)).take i).map V.bl)
        ⟨none,none,rfl,Same.new L,za,rfl⟩ (fun i σ zs o ⟨_,_,_,sm,_⟩=>⟨SqT.of (sm.tp (I.tp l)),SqT.of (sm _ _ za)⟩) ?_ ?_)
       ·rintro i σ zs o O y1 y2 e1 e2 hi hz ⟨y,G,rfl,sm,b,rfl⟩ M
        obtain⟨S,g1,rfl⟩:=nA e1;obtain⟨T,g2,rfl⟩:=nA e2;refine⟨O,_,rfl,SqT.of za,rfl,_,_,rfl,_,_,rfl,rfl,ny ?_⟩;refine⟨_,rfl,_,rfl,_,_,rfl,rfl,bx (AD (Nat.min_le_right _ _) (by rw[Aa];exact zf (by simp at d;omega))) hi hz (by rw[ab (ze b M)];exact b) ⟨_,_,rfl,?_,za,?_⟩⟩
        ·exact(sm.then (sm.free M)).then L
        ·have e3:(((x::r).zip r).map fun q=>decide (q.1<q.2))[i]?=some (decide (S<T)):=by
          rw[Ak,bD.bw,g1,g2];rfl
         rw[AF e3,Ah];rfl
       ·rintro σ zs o ⟨y,G,rfl,sm,b,rfl⟩
        refine⟨D,(((x::r).zip r).map fun q=>decide (q.1<q.2)),rfl,SqL.of ?_,?_⟩
        ·rw[b,hm,Ax (by simp)]
        ·have:=k o (I.trans sm)
         have N:=CV (x::r);rw[show(x::r).drop 1=r from rfl] at N;rw[N];have U:zV (x::r)=aT (x::r):=by
          unfold zV;rw[decide_eq_true c,decide_eq_true d,hl];rw[show decide ((x::r).headD 0<0)=false from by simpa using hx]
          rfl
         rw[U] at this;exact this
  ·refine⟨_,rfl,bb (u ?_)⟩
   have c:¬1<=ps.length:=fun z=>h1 (decide_eq_true ω);unfold zV;rw[decide_eq_false c]
   rfl
def qq:Sp:=fun vs H Q _=>∃a ps,vs=[.ref a]/\Tp H a ps/\ps.length<=5/\∀D as H',Same H H'->H D=none->H' D=some (.lst (as.map V.ref))->Tps H' as (parts ps)->Q (.ref D) H'
def qr:zq ["piece","found","point"] ["piece"] (zh lc):=⟨rfl,rfl,rfl,δ,rfl,δ,δ⟩
def fe{n:Nat}(h:n<=5):2 ^ n<=32:=by
 have:2 ^ n<=2 ^ 5:=Nat.pow_le_pow_right ξ h;exact this
def C3{H2:Hp}{as:List Addr}{fs:Ξ}{q:Int}{D:Addr}{l:Addr}{Q:VK}(hl:H2 l=some (.lst (as.map V.ref)))(r:Tps H2 as fs)(hz:as.length<=100)(F:∀f∈fs,f.length<=100)(s:H2 D=none)(k:∀bs b,Same H2 b->b D=some (.lst (bs.map V.ref))->Tps b bs (fs.map (·++[q]))->Q (.ref D) b):cg (dn K l) (cn 0) ce (cr wQ (am 0) (c5 (cD (am 1) bB))) [none,some (.int q)] H2 D Q:=by
 have C:=r.length;refine zH (xs:=as.map V.ref) (fun j σ ys b=>∃bs v,σ=[v,some (.int q)]/\Same H2 b/\b D=some (.lst ys)/\ys=bs.map V.ref/\Tps b bs ((fs.take j).map (·++[q]))) ?_ ?_ ?_ ?_
 ·exact⟨[],none,rfl,Same.new s,za,rfl,.nil⟩
 ·rintro j σ ys b ⟨bs,v,rfl,sm,d,rfl,hb⟩
  exact SqL.of (sm _ _ hl)
 ·rintro j σ ys b x hx y hy ⟨bs,v,rfl,sm,d,rfl,hb⟩
  obtain⟨a,A,rfl⟩:=zD hx;obtain⟨f,i,hf⟩:=r.get A;refine cR ?_;refine⟨_,rfl,_,rfl,zf (by simp),fun t u=>?_⟩;have E:=sm.tp hf;have o:Same b (upd b t (.tup [.int q])):=Same.new u;refine⟨a,t,_,_,rfl,rfl,o _ _ E,za,?_,fun p h w hp=>?_⟩
  ·rw[Aa]
   exact zf (by have:=F f (Al i);simp;omega)
  ·have g:Same b h:=o.trans w
   refine bx (ys:=bs.map V.ref) (by rw[Aa];exact zf ω) y hy (g _ _ d) ⟨bs++[p],_,rfl,(sm.trans g).then s,za,by rw[Ah];rfl,?_⟩;rw[AF i,Ah];have G:p≠D:=aF hp (g _ _ d) (by intro z;cases z);have keep:∀c xs,h c=some (.tup xs)->upd h D (.lst (bs.map V.ref++[V.ref p])) c=some (.tup xs):=fun c xs e=>by
    rw[ab (aF e (g _ _ d) (by intro z;cases z))];exact e
   refine Tps.snoc (Paired.mapP (g.tps hb) fun c xs e=>keep c _ e) (keep p _ ?_);rw[hp,Ah];rfl
 ·rintro σ ys b ⟨bs,v,rfl,sm,d,rfl,hb⟩
  rw[Aa,C,take_all] at hb;exact k bs b sm d hb
def Je{f:Addr}{fd:FuncData}(F:Fun K "parts_of" "parts_of" lc f fd):FnOk P w K mg base aJ 1 f fd ["piece"] qq:=by
 refine F.ok qr (fun vs H Q E h=>?_) (fun cdv A outer s H vs Q E hr h=>?_)
 ·obtain⟨a,ps,rfl,_⟩:=h;rfl
 ·obtain⟨a,ps,rfl,r,h5,k⟩:=h
  refine⟨_,zd (zp (i:=1) qr.nd rfl (Or.inl rfl) (z0 (zb (ei zc) zc)))
   (zd (zK AG rfl (ux (pv 0)) (zk (i:=2) qr.nd rfl (Or.inr rfl))
    (zg (zp (i:=1) qr.nd rfl (Or.inl rfl) (zx mw (pv 1) (zw ["piece","found","point"] ["part","point"] [none,some 2] (zr (pv 1)) (fun o C s₀ H₀ ex=>zk (i:=0) (cF ["part","point"]) rfl (Or.inl rfl)) (fun o C s₀ H₀ ex=>eX)
     (fun o C s₀ H₀ ex=>zx pX (pv 0) (ei (zb (pv 1) zc))) (hfr:=ci (zh lc) δ))))))
   (zg (zu (kJ GU (pv 1) (ic zi) ia)))),?_⟩
  refine⟨zf (by simp),fun e he=>⟨zf (by simp),fun l hl=>?_⟩⟩;have u:Same H (upd (upd H e (.tup [])) l (.lst [.ref e])):=(Same.new he).then ((Same.new he).free hl);have J:e≠l:=ze (H:=upd H e (.tup [])) za hl;refine⟨_,rfl,a,rfl,⟨_,SqT.of (u _ _ r)⟩,Bs (K:=K) (a:=a) (xs:=ps.map V.int) (fun i σ H2=>∃l as v,σ=[some (.ref a),some (.ref l),v]/\Same H H2/\H l=none/\H2 l=some (.lst (as.map V.ref))/\Tps H2 as (subs (ps.take i)))
   ⟨l,[e],none,rfl,u,(Same.new he).free hl,za,.cons (by show upd _ _ _ e=_;rw[ab J];exact za) .nil⟩ (fun i σ H2 _ ⟨_,_,_,_,sm,_⟩=>SqT.of (sm _ _ r)) ?_ ?_⟩
  ·rintro i x σ H2 hx ⟨l,as,v,rfl,sm,G,hl,b⟩
   obtain⟨q,eq,rfl⟩:=nA hx;have hi:i<ps.length:=(List.getElem?_eq_some_iff.mp eq).1;have L:=b.length;have hn:as.length<=32:=by
    rw[L,qj,Ay];exact fe ω
   have hm:∀f∈subs (ps.take i),f.length<=100:=fun f hf=>by
    have:=CU _ f hf;rw[Ay] at this;omega
   refine⟨_,rfl,_,rfl,l,rfl,⟨_,SqL.of hl⟩,fun D d=>zF (C3 hl b ω hm d fun bs O g j hb=>?_)⟩;have M:=hb.length;rw[Aa] at M;refine⟨l,D,_,_,rfl,rfl,g _ _ hl,j,by rw[Aa,Aa];exact zf ω,fun p c=>?_⟩;have y:H p=none:=(sm.trans g).free c;refine⟨p,as++bs,_,rfl,(sm.trans g).then y,y,by rw[za,Ah],?_⟩;rw[AF eq,xI];exact(Same.new c).tps ((g.tps b).append hb)
  ·rintro σ H2 ⟨l,as,v,rfl,sm,G,hl,b⟩
   rw[Aa,take_all] at b;refine⟨_,rfl,_,rfl,l,_,rfl,SqL.of hl,fun D d=>?_⟩;have z:H D=none:=sm.free d;obtain⟨t,I,_⟩:=xJ ps;refine k D (as.drop 1) _ (sm.then z) z ?_ ?_
   ·rw[za]
    unfold ca;have N:1<=as.length:=by rw[b.length,I];simp
    have e1:HT.sIx (as.map V.ref).length 0 (some 1)=1:=by
     have:=HT.ms (as.map V.ref).length 0 1;rw[show((1:Nat):Int)=1 from rfl] at this;rw[this,Aa];omega
    rw[e1,HT.pD,<-List.map_drop,Ax (by simp)]
   ·exact(Same.new d).tps (b.drop 1)
def Jf:zq ["piece"] ["piece"] (zh d0):=⟨rfl,rfl,rfl,δ,rfl,δ,δ⟩
def Jg{f:Addr}{fd:FuncData}(F:Fun K "order_key" "order_key" d0 f fd)(B:Bt mg):FnOk P w K mg base aJ 1 f fd ["piece"] qa:=by
 refine F.ok Jf (fun vs H Q E h=>?_) (fun cdv A outer s H vs Q E hr h=>?_)
 ·obtain⟨a,ps,rfl,_⟩:=h;rfl
 ·obtain⟨a,ps,rfl,b,k⟩:=h
  refine⟨_,zg (zu (ei (zb (zl zj rfl B.len cH (zb (pv 0) zc)) (zb (pv 0) zc)))),?_⟩;refine⟨_,rfl,a,_,rfl,.inr (SqT.of b),_,rfl,zf (by simp),fun p hp=>?_⟩;rw[Aa];exact k p hp
def xQ(K:Af):Sp:=fun vs H Q _=>∃l as pss,vs=[.ref l]/\SqL K H l (as.map V.ref)/\Tps H as pss/\pss.length<64/\
 ∀D H2(c:List (List Int×Addr)),Same H H2->H D=none->H2 D=some (.lst (c.map fun q=>V.ref q.2))->c.Perm (pss.zip as)->c.Pairwise (fun a b=>HT.lexLt ((b.1.length:Int)::b.1) ((a.1.length:Int)::a.1)=false)->Q (.ref D) H2
def Jh:zq ["some"] ["some"] (zh li):=⟨rfl,rfl,rfl,δ,rfl,δ,δ⟩
def C4{f a:Addr}{fd b:FuncData}(F:Fun K "in_order" "in_order" li f fd)(B:Bt mg)(g:Fun K "order_key" "order_key" d0 a b)(bk:Binds K b ["piece"] [])(mk:mg "order_key"=some (.ref a)):FnOk P w K mg base aJ 4 f fd ["some"] (xQ K):=by
 have e:FnOk P w K mg base aJ 1 a b ["piece"] qa:=Jg g B;refine F.ok Jh (fun vs H Q E h=>?_) (fun cdv A outer s H vs Q E hr h=>?_)
 ·obtain⟨l,as,pss,rfl,_⟩:=h;rfl
 ·obtain⟨l,as,pss,rfl,hl,c,d,k⟩:=h
  refine⟨_,zg (zu (Ie e hr bk rfl B.sorted xM rfl mk (zb (pv 0) zc))),?_⟩;exact⟨_,rfl,l,as,pss,rfl,hl,c,d,k⟩
end
end K50
end
section
namespace K50
open K1
open PySem L2 STb
def Tps.upd{H:Hp}{d:Addr}{o o':HO}{as:List Addr}{pss:Ξ}(h:Tps H as pss)(hd:H d=some o')(hn:∀xs,o'≠.tup xs):Tps (L2.upd H d o) as pss:=
 Paired.mapP h fun a ps e=>by
  show L2.upd H d o a=_;rw[ab (aF (show H a=some _ from e) hd fun z=>hn _ z.symm)];exact e
def dB(seq:Ξ):List (List Key×V):=(dd seq).map fun ps=>((ps.map Sum.inl:List Key),V.bl true)
def xR(seq:Ξ):(dB seq).length<=seq.length:=by unfold dB;rw[Aa];exact ir seq
def xS(seq:Ξ)(ps:List Int):putK (dB seq) (ps.map Sum.inl) (.bl true)=dB (seq++[ps]):=by
 unfold putK dB;rw[nv];have a:(((dd seq).map fun ps=>((ps.map Sum.inl:List Key),V.bl true)).any fun kv=>decide (kv.1=ps.map Sum.inl))=decide (ps∈dd seq):=by
  rw[List.any_map]
  by_cases h:ps∈dd seq
  ·rw[decide_eq_true h,List.any_eq_true]
   exact⟨ps,h,by simp⟩
  ·rw[decide_eq_false h,List.any_eq_false]
   intro q hq;simp only[Function.comp,decide_eq_true_eq,fI];rintro rfl;exact h hq
 rw[a]
 by_cases h:ps∈dd seq
 ·rw[decide_eq_true h,if_pos rfl,if_pos h,Ap]
  refine AJ fun q hq=>?_;simp only[Function.comp];split<;>rfl
 ·rw[decide_eq_false h,if_neg (by simp),if_neg h,Ah]
  rfl
def C5{H:Hp}{seq:Ξ}{bs:List Addr}(h:Paired (fun(p:List Key×V) b=>H b=some (.tup (p.1.map kV))) (dB seq) bs):Tps H bs (dd seq):=by
 unfold dB at h;generalize dd seq=l at h
 induction l generalizing bs with
 |nil=>cases h;exact .nil
 |cons x l ih=>
  rw[Av] at h;cases h with
  |cons r t=>
   refine .cons ?_ (ih t);show H _=_;rw[r,Ap]
   rfl
def xT(pss:Ξ)(h:∀ps∈pss,ps.length<=5):(pss.flatMap parts).length<=31*pss.length:=by
 induction pss with
 |nil=>simp
 |cons x l ih=>
  rw[Bc,Ai,la,An];have:=ih fun ps hp=>h ps (Aq _ hp);have:=fe (h x As);omega
def C6{pss:Ξ}{i:Nat}{ps:List Int}(h:pss[i]?=some ps):(pss.take (i+1)).flatMap parts=(pss.take i).flatMap parts++parts ps:=by
 rw[AF h,List.flatMap_append];simp
def Told(H H2:Hp)(pss:Ξ)(D:Addr)(c:List (List Int×Addr)):Prop:=
 Same H H2/\H D=none/\H2 D=some (.lst (c.map fun q=>V.ref q.2))/\(∀q∈c,Tp H2 q.2 q.1)/\(c.map (·.1)).Perm (dd (pss.flatMap parts))/\c.Pairwise (fun a b=>HT.lexLt ((b.1.length:Int)::b.1) ((a.1.length:Int)::a.1)=false)
section
variable{P:Program}{w:World}{K:Af}{mg:Str->Option Value}{base:Heap}
def nD(K:Af):Sp:=fun vs H Q _=>∃l as pss,vs=[.ref l]/\SqL K H l (as.map V.ref)/\Tps H as pss/\(∀ps∈pss,ps.length<=5)/\pss.length<=20/\(dd (pss.flatMap parts)).length<64/\∀D H2 a,Told H H2 pss D a->Q (.ref D) H2
def qt:zq ["some","found","piece","part"] ["some"] (zh sAll):=⟨rfl,rfl,rfl,δ,rfl,δ,δ⟩
def C7{f fp N fk:Addr}{fd O S ck:FuncData}(F:Fun K "all_parts" "all_parts" sAll f fd)(B:Bt mg)(Fp:Fun K "parts_of" "parts_of" lc fp O)(bp:Binds K O ["piece"] [])(mp:mg "parts_of"=some (.ref fp))(Fo:Fun K "in_order" "in_order" li N S)(bo:Binds K S ["some"] [])(mo:mg "in_order"=some (.ref N))(Fk:Fun K "order_key" "order_key" d0 fk ck)(bk:Binds K ck ["piece"] [])(mk:mg "order_key"=some (.ref fk)):FnOk P w K mg base aJ 5 f fd ["some"] (nD K):=by
 have Gp:FnOk P w K mg base aJ 1 fp O ["piece"] qq:=Je Fp;have Go:FnOk P w K mg base aJ 4 N S ["some"] (xQ K):=C4 Fo B Fk bk mk;refine F.ok qt (fun vs H Q E h=>?_) (fun cdv A outer s H vs Q E hr h=>?_)
 ·obtain⟨l,as,pss,rfl,_⟩:=h;rfl
 ·obtain⟨l,as,pss,rfl,hl,U,h5,c9,bj,k⟩:=h
  have hu:=gY hr;have M:Room 1 _:=hr.mono ξ;refine⟨_,zd (zp (i:=1) qt.nd rfl (Or.inl rfl) iQ)
   (zd (zK AG rfl (zr (pv 0)) (zk (i:=2) qt.nd rfl (Or.inl rfl))
    (zg (zK AG rfl (zr (zn Gp M rfl mp Fp.kp bp .nil al (zb (pv 2) zc))) (zk (i:=3) qt.nd rfl (Or.inl rfl))
     (zg (ik hu (pv 1) (pv 3) fA rfl)))))
   (zg (zu (zn Go hr rfl mo Fo.kp bo .nil al (zb (zm (Co rfl) rfl B.list du (zb (pv 1) zc)) zc))))),?_⟩
  intro d hd;have aw:=U.length;refine⟨_,rfl,l,rfl,⟨_,(Same.new hd).seq hl⟩,zC (K:=K) (a:=l) (xs:=as.map V.ref) (fun i σ H2=>∃v g,σ=[some (.ref l),some (.ref d),v,g]/\Same H H2/\H2 d=some (.dT (dB ((pss.take i).flatMap parts))))
   ⟨none,none,rfl,Same.new hd,za⟩ (fun i σ H2 _ ⟨_,_,_,sm,_⟩=>sm.seq hl) ?_ ?_⟩
  ·rintro i x σ H2 hx ⟨v,g,rfl,sm,u⟩
   obtain⟨a,ea,rfl⟩:=zD hx;obtain⟨ps,I,aN⟩:=U.get ea;have X:=h5 ps (Al I);have hi:i<pss.length:=(List.getElem?_eq_some_iff.mp I).1;refine⟨_,rfl,a,ps,rfl,sm.tp aN,X,fun D cs H3 p bH r hcs=>⟨D,rfl,⟨_,SqL.of r⟩,?_⟩⟩;have gJ:=hcs.length;have ju:D≠d:=aF r (p _ _ u) (by intro z;cases z);refine zC (K:=K) (a:=D) (xs:=cs.map V.ref) (fun j σ o=>∃g,σ=[some (.ref l),some (.ref d),some (.ref a),g]/\Same H o/\o D=some (.lst (cs.map V.ref))/\Tps o cs (parts ps)/\o d=some (.dT (dB ((pss.take i).flatMap parts++(parts ps).take j))))
    ⟨_,rfl,sm.trans p,r,hcs,by rw[List.take_zero,AN];exact p _ _ u⟩ (fun j σ o _ ⟨_,_,_,q,_⟩=>SqL.of q) ?_ ?_
   ·rintro j x σ o hx ⟨g,rfl,J,W,L,y⟩
    obtain⟨c,ec,rfl⟩:=zD hx;obtain⟨f,ef,hf⟩:=L.get ec;have C:(dB ((pss.take i).flatMap parts++(parts ps).take j)).length<sizeLine:=by
     refine zM (AD (xR _) ?_);rw[Ai];have h1:=xT (pss.take i) (fun q hq=>h5 q (List.mem_of_mem_take hq));have h2:=la ps;have h3:=fe X;rw[Ay] at h1 ⊢;omega
    refine⟨_,rfl,_,rfl,d,_,rfl,DPut.t (k:=f.map Sum.inl) y (by rw[Ap];exact hf) C,⟨_,rfl,J.then hd,?_,?_,?_⟩⟩
    ·rw[ab ju];exact W
    ·exact Tps.upd L y (by intro xs z;cases z)
    ·rw[za,xS,List.append_assoc,<-AF ef]
   ·rintro σ o ⟨g,rfl,J,W,L,y⟩
    refine⟨_,_,rfl,J,?_⟩;rw[Aa,gJ,take_all] at y;rw[C6 I];exact y
  ·rintro σ H2 ⟨v,g,rfl,sm,u⟩
   rw[Aa,aw,take_all] at u;refine⟨_,rfl,d,_,rfl,u,fun bs hb T e=>?_⟩;have tb:=C5 hb;have gT:=tb.length;refine⟨T,bs,dd (pss.flatMap parts),rfl,SqL.of za,(Same.new e).tps tb,bj,fun D H3 qs p r G hp hs=>?_⟩;have Y:H T=none:=sm.free e;refine k D H3 qs ⟨(sm.then Y).trans p,(sm.then Y).free r,G,fun q hq=>?_,?_,hs⟩
   ·obtain⟨m,em⟩:=List.mem_iff_getElem?.mp (hp.mem_iff.mp hq)
    rw[bD.bw] at em;cases e1:(dd (pss.flatMap parts))[m]? with
    |none=>rw[e1] at em;cases em
    |some f=>
     cases e2:bs[m]? with
     |none=>rw[e1,e2] at em;cases em
     |some b=>
      rw[e1,e2] at em;obtain rfl:(f,b)=q:=Am em;exact p.tp ((Same.new e).tp (iR tb m b f e2 e1))
   ·have:=hp.map (·.1)
    rw[List.map_fst_zip ω] at this;exact this
def C8(K:Af):Sp:=fun vs H Q _=>∃l as pss,vs=[.ref l]/\SqL K H l (as.map V.ref)/\Tps H as pss/\(pss.all zV=true->(dd (pss.flatMap parts)).length<64)/\∀H',Same H H'->Q (.bl (bO pss)) H'
def Ji:zq ["web"] ["web"] (zh qp):=⟨rfl,rfl,rfl,δ,rfl,δ,δ⟩
def Jj{f G fa fp U W:Addr}{fd I J X Y ck:FuncData}{t5 k0 L ou:Tok}(F:Fun K "is_web" "is_web" qp f fd)(B:Bt mg)(m5:mg "MOST_POINTS"=some (.int 5 t5))(lZ:mg "LAST_POINT"=some (.int 99 k0))(mJ:mg "MOST_HANDED"=some (.int 20 L))(mH:mg "MOST_PIECES"=some (.int 200 ou))(Fi:Fun K "is_piece" "is_piece" qo G I)(bi:Binds K I ["numbers"] [])(mi:mg "is_piece"=some (.ref G))(Fa:Fun K "all_parts" "all_parts" sAll fa J)(ba:Binds K J ["some"] [])(ma:mg "all_parts"=some (.ref fa))(Fp:Fun K "parts_of" "parts_of" lc fp X)(bp:Binds K X ["piece"] [])(mp:mg "parts_of"=some (.ref fp))(Fo:Fun K "in_order" "in_order" li U Y)(bo:Binds K Y ["some"] [])(mo:mg "in_order"=some (.ref U))(Fk:Fun K "order_key" "order_key" d0 W ck)(bk:Binds K ck ["piece"] [])(mk:mg "order_key"=some (.ref W)):FnOk P w K mg base aJ 6 f fd ["web"] (C8 K):=by
 have Gi:FnOk P w K mg base aJ 1 G I ["numbers"] C2:=Jd Fi B m5 lZ;have Ga:FnOk P w K mg base aJ 5 fa J ["some"] (nD K):=C7 Fa B Fp bp mp Fo bo mo Fk bk mk;refine F.ok Ji (fun vs H Q E h=>?_) (fun cdv A outer s H vs Q E hr h=>?_)
 ·obtain⟨l,as,pss,rfl,_⟩:=h;rfl
 ·obtain⟨l,as,pss,rfl,hl,p,bj,k⟩:=h
  have aD:=hr.units;have u:Room 1 _:=hr.mono ξ;refine⟨_,zd (cY (zt uW (zl zj rfl B.len cH (zb (pv 0) zc)) (o6 rfl mJ (v:=.int 20) ⟨_,rfl⟩) (ao _)) (zg (zu fA)) zE)
   (zd (cY (tQ (Bh (zl (Cm rfl) rfl B.all C1 (zb
    (zw ["web"] ["numbers"] [none] (zr (pv 0)) (fun M C s₀ H₀ ex=>zk (i:=0) (cF ["numbers"]) rfl (Or.inl rfl)) (fun M C s₀ H₀ ex=>eX)
     (fun M C s₀ H₀ ex=>zn Gi u rfl mi Fi.kp bi .nil al (zb (pv 0) zc)) (hfr:=c_ δ)) zc)))) (zg (zu fA)) zE)
   (zd (cY (zt pw (zl IS rfl B.len cH (zb (zm (IR rfl aD) rfl B.set I_ (zb (pv 0) zc)) zc)) (zl zj rfl B.len cH (zb (pv 0) zc)) (ao _)) (zg (zu fA)) zE)
   (zg (zu (Bz uS (zl zj rfl B.len cH (zb (zn Ga hr rfl ma Fa.kp ba .nil al (zb (pv 0) zc)) zc)) (o6 rfl mH (v:=.int 200) ⟨_,rfl⟩) (ao _)))))),?_⟩
  have O:=p.length;refine⟨_,rfl,l,_,rfl,.inl hl,_,_,rfl,rfl,_,rfl,?_⟩;rw[Aa];refine dr (fun h1=>?_) (fun h1=>?_)
  ·have:=k H (Same.refl H)
   rw[IY pss (by have:=of_decide_eq_true h1;omega)] at this;exact this
  ·have T:pss.length<=20:=by
    have:¬((20:Int)<as.length):=fun z=>h1 (decide_eq_true z);omega
   refine⟨_,rfl,l,rfl,⟨_,hl⟩,fun D N=>zF (zH (K:=K) (a:=l) (xs:=as.map V.ref) (fun i σ ys d=>∃v,σ=[v]/\Same H d/\d D=some (.lst ys)/\ys=((pss.map zV).take i).map V.bl)
    ⟨none,rfl,Same.new N,za,rfl⟩ (fun i σ ys d ⟨_,_,sm,_⟩=>sm.seq hl) ?_ ?_)⟩
   ·rintro i σ ys d x hx hi hy ⟨v,rfl,sm,b,rfl⟩
    obtain⟨a,ea,rfl⟩:=zD hx;obtain⟨ps,aH,r⟩:=p.get ea;refine cR ?_;refine⟨_,rfl,a,ps,rfl,sm.tp r,fun H4 o=>bx (by rw[Aa];exact zf ω) hi hy (o _ _ b) ⟨_,rfl,(sm.trans o).then N,za,?_⟩⟩;have e:(pss.map zV)[i]?=some (zV ps):=by rw[Ak,aH];rfl
    rw[AF e,Ah];rfl
   ·rintro σ ys d ⟨v,rfl,sm,b,rfl⟩
    rw[Aa,O,Ax (by simp)] at b;refine⟨D,pss.map zV,rfl,SqL.of b,_,rfl,?_⟩;have mV:(pss.map zV).all id=pss.all zV:=by rw[List.all_map];rfl
    rw[mV];cases hp:pss.all zV with
    |false=>
     refine bb ?_;have:=k d sm;rw[show bO pss=false from by unfold bO;rw[hp];simp] at this;exact this
    |true=>
     refine aW ?_;refine⟨_,rfl,l,as,pss,rfl,sm.seq hl,sm.tps p,ω,fun S hS=>?_⟩;have g:Same H (upd d S (gk S (dd pss).length)):=sm.then (sm.free hS);refine⟨S,_,rfl,za,_,rfl,l,_,rfl,.inl (g.seq hl),_,_,rfl,rfl,_,rfl,?_⟩;rw[Aa,O];refine dr (fun h2=>?_) (fun h2=>?_)
     ·have y:(dd pss).length<pss.length:=by have:=of_decide_eq_true h2;omega
      have:=k _ g;rw[show bO pss=false from by unfold bO;rw[decide_eq_true y];simp] at this;exact this
     ·have y:¬(dd pss).length<pss.length:=fun z=>h2 (decide_eq_true ω)
      refine⟨_,rfl,l,as,pss,rfl,g.seq hl,g.tps p,fun ps r=>?_,T,bj hp,fun D2 H4 qs ⟨o,_,aR,_,c,_⟩=>?_⟩
      ·have:=List.all_eq_true.mp hp ps r
       unfold zV at this;simp only[AI,decide_eq_true_eq] at this;exact this.1.1.1.2
      ·refine⟨D2,_,rfl,.inl (SqL.of aR),_,_,rfl,rfl,?_⟩
       have j:(qs.map fun q=>V.ref q.2).length=(dd (pss.flatMap parts)).length:=by
        rw[Aa,<-c.length_eq,Aa]
       rw[j];have:=k H4 (g.trans o);have e:bO pss=decide (((dd (pss.flatMap parts)).length:Int)<=200):=by
        unfold bO;rw[hp,decide_eq_true T,decide_eq_false y]
        by_cases q:(dd (pss.flatMap parts)).length<=200
        ·rw[decide_eq_true q,decide_eq_true (show((dd (pss.flatMap parts)).length:Int)<=200 from ω)];rfl
        ·rw[decide_eq_false q,decide_eq_false (show ¬((dd (pss.flatMap parts)).length:Int)<=200 from ω)];rfl
       rw[e] at this;exact this
end
abbrev xU:Stmt:=top 33
abbrev jI:Stmt:=top 34
abbrev nF:Stmt:=top 35
def C9(x y:Int):Prop:=0<=x/\(y=0\/(y=1/\x<4294967296))
def zak(H:Hp)(p:Addr):Prop:=∃x y,H p=some (.lst [.int x,.int y])/\C9 x y
def zaq(p:Addr)(H H':Hp):Prop:=∀b o,b≠p->H b=some o->H' b=some o
def zaq.trans{p:Addr}{H H1 H2:Hp}(a:zaq p H H1)(b:zaq p H1 H2):zaq p H H2:=fun c o hc e=>b c o hc (a c o hc e)
def zaq.of{p:Addr}{H H1:Hp}(a:Same H H1):zaq p H H1:=fun c o _ e=>a c o e
def zaq.free{p:Addr}{H H':Hp}(e:zaq p H H')(hb:zak H p)(a:zak H' p){l:Addr}(h:H' l=none):H l=none:=by
 cases q:H l with
 |none=>rfl
 |some o=>
  obtain⟨x,y,e1,_⟩:=a;have hl:l≠p:=fun z=>by rw[z,e1] at h;cases h
  rw[e l o hl q] at h;cases h
def zak.same{H H':Hp}{p:Addr}(b:zak H p)(e:Same H H'):zak H' p:=let ⟨x,y,h,o⟩:=b;⟨x,y,e _ _ h,o⟩
def zak.ne{H:Hp}{p l:Addr}{as:List Addr}(b:zak H p)(h:H l=some (.lst (as.map V.ref))):l≠p:=by
 obtain⟨x,y,e,_⟩:=b;refine aF h e fun z=>?_;injection z with z
 cases as with
 |nil=>cases z
 |cons a r=>rw[Av] at z;cases z
def zak.net{H:Hp}{p t:Addr}{xs:List V}(b:zak H p)(h:H t=some (.tup xs)):t≠p:=by
 obtain⟨x,y,e,_⟩:=b;exact aF h e (by intro z;cases z)
def zaq.tp{p:Addr}{H H':Hp}{a:Addr}{ps:List Int}(e:zaq p H H')(b:zak H p)(h:Tp H a ps):Tp H' a ps:=e _ _ (b.net h) h
def zaq.tps{p:Addr}{H H':Hp}{as:List Addr}{pss:Ξ}(e:zaq p H H')(b:zak H p)(h:Tps H as pss):Tps H' as pss:=Paired.mapP h fun _ _ q=>e.tp b q
def zaq.then{p:Addr}{H H1:Hp}{a:Addr}{o:HO}(e:zaq p H H1)(h:H a=none):zaq p H (L2.upd H1 a o):=fun b u hb q=>by rw[ab (ze q h)];exact e b u hb q
def zak.upd{H:Hp}{p l:Addr}{o:HO}(b:zak H p)(h:l≠p):zak (L2.upd H l o) p:=let ⟨x,y,e,k⟩:=b;⟨x,y,by rw[ab h.symm];exact e,k⟩
def zak.new{H:Hp}{p l:Addr}{o:HO}(b:zak H p)(h:H l=none):zak (L2.upd H l o) p:=b.same (Same.new h)
section
variable{P:Program}{w:World}{K:Af}{mg:Str->Option Value}{base:Heap}
def C_(K:Af):Sp:=fun vs H Q _=>∃(l:Addr)(a:List Int),vs=[.ref l,.int 0]/\SqL K H l (a.map V.int)/\∀n,Q (.int n) H
def Jk:zq ["script","k"] ["script","k"] (zh xU):=⟨rfl,rfl,rfl,δ,rfl,δ,δ⟩
def Jl{f:Addr}{fd:FuncData}(F:Fun K "_law_cell_at" "_law_cell_at" xU f fd)(B:Bt mg):FnOk P w K mg base aJ 1 f fd ["script","k"] (C_ K):=by
 refine F.ok Jk (fun vs H Q E h=>?_) (fun cdv A outer s H vs Q E hr h=>?_)
 ·obtain⟨l,a,rfl,_⟩:=h;rfl
 ·obtain⟨l,a,rfl,hl,k⟩:=h
  refine⟨_,zd (cY (zt pw (pv 1) (zl zj rfl B.len cH (zb (pv 0) zc)) (ao _)) (zg (zu (cd zU (pv 0) (pv 1) (fun _ _=>rfl)))) zE) (zg (zu zi)),?_⟩;refine⟨_,rfl,_,rfl,l,_,rfl,.inl hl,_,_,rfl,rfl,_,rfl,?_⟩;refine dr (fun h1=>?_) (fun h1=>?_)
  ·cases a with
   |nil=>have:=of_decide_eq_true h1;simp at this
   |cons n a=>exact⟨_,rfl,_,rfl,l,_,_,_,rfl,rfl,hl,zy (j:=0) rfl,k n⟩
  ·exact k 0
def C':Sp:=fun vs H Q _=>∃n,vs=[.int n]/\∀p x y,H p=none->C9 x y->Q (.ref p) (upd H p (.lst [.int x,.int y]))
def Jm:zq ["cell"] ["cell"] (zh jI):=⟨rfl,rfl,rfl,δ,rfl,δ,δ⟩
def Jn{f:Addr}{fd:FuncData}(F:Fun K "_law_box" "_law_box" jI f fd):FnOk P w K mg base aJ 1 f fd ["cell"] C':=by
 refine F.ok Jm (fun vs H Q E h=>?_) (fun cdv A outer s H vs Q E hr h=>?_)
 ·obtain⟨n,rfl,_⟩:=h;rfl
 ·obtain⟨n,rfl,k⟩:=h
  refine⟨_,zd (cY (zt Gx (pv 0) (zx uN zi zi) (ao _)) (zg (zu (z0 (zb (zx jn (pv 0) (zx uN zi zi)) (zb zi zc))))) zE)
   (zg (zu (z0 (zb (zx fH (zx eR (zx gS (zx fH (pv 0) (zx uN zi zi)) zi) zi) zi) (zb zi zc))))),?_⟩
  have hc:mj 10 18:=⟨ξ,ξ,ξ⟩;have a:(10:Int) ^ (18:Int).toNat=1000000000000000000:=ξ
  refine⟨_,rfl,_,_,rfl,rfl,hc,_,_,rfl,rfl,_,rfl,?_⟩;refine dr (fun h1=>?_) (fun h1=>?_)
  ·refine⟨_,rfl,_,_,rfl,rfl,hc,_,_,rfl,rfl,zf (by simp),fun p hp=>k p _ 0 hp ⟨?_,.inl rfl⟩⟩
   have:=of_decide_eq_true h1;omega
  ·refine⟨_,rfl,_,_,rfl,rfl,hc,_,_,rfl,rfl,(by show(0:Int)<10 ^ (18:Int).toNat;rw[a];decide),_,_,rfl,rfl,.inr ⟨ξ,ξ⟩,_,_,rfl,rfl,_,_,rfl,rfl,(by show(0:Int)<2147483629;decide),zf (by simp),fun p hp=>k p _ 1 hp ⟨?_,.inr ⟨rfl,?_⟩⟩⟩
   ·exact Int.emod_nonneg _ ξ
   ·have:=Int.emod_lt_of_pos (n%10 ^ (18:Int).toNat*69621+7001) (show(0:Int)<2147483629 from ξ)
    omega
def qy:Sp:=fun vs H Q _=>∃p m,vs=[.ref p,.int m]/\zak H p/\0<m/\m<1073741824/\∀r H',0<=r->r<m->zaq p H H'->zak H' p->Q (.int r) H'
def xV:zq ["box","most","found","mixed"] ["box","most"] (zh nF):=⟨rfl,rfl,rfl,δ,rfl,δ,δ⟩
def xW{f:Addr}{fd:FuncData}(F:Fun K "_law_take" "_law_take" nF f fd):FnOk P w K mg base aJ 1 f fd ["box","most"] qy:=by
 refine F.ok xV (fun vs H Q E h=>?_) (fun cdv A outer s H vs Q E hr h=>?_)
 ·obtain⟨p,m,rfl,_⟩:=h;rfl
 ·obtain⟨p,m,rfl,⟨x,y,hp,d,g⟩,a,hm,k⟩:=h
  refine⟨_,zd (cY (zt gU (cd zU (pv 0) zi (fun _ _=>rfl)) zi (ao _))
    (zd (zp (i:=2) xV.nd rfl (Or.inl rfl) (zx fH (cd zU (pv 0) zi (fun _ _=>rfl)) (pv 1)))
    (zd (Bn (zx Bu (cd zU (pv 0) zi (fun _ _=>rfl)) (pv 1)) (Bm (pv 0) zi set_list))
    (zg (zu (pv 2))))) zE)
   (zd (zp (i:=3) xV.nd rfl (Or.inl rfl) (zx fH (zx eR (zx eR (zx gS (cd zU (pv 0) zi (fun _ _=>rfl)) (cd zU (pv 0) zi (fun _ _=>rfl))) (zx gS zi (cd zU (pv 0) zi (fun _ _=>rfl)))) zi) zi))
   (zd (Bn (zx fH (zx eR (zx eR (zx gS (pv 3) (pv 3)) (zx gS zi (pv 3))) zi) zi) (Bm (pv 0) zi set_list))
   (zg (zu (zx fH (zx Bu (cd zU (pv 0) zi (fun _ _=>rfl)) zi) (pv 1)))))),?_⟩
  have c:ew ([.int x,.int y]:List V) 0=some (.int x):=zy (j:=0) rfl;have D:ew ([.int x,.int y]:List V) 1=some (.int y):=zy (j:=1) rfl;refine⟨_,rfl,p,_,_,_,rfl,rfl,SqL.of hp,D,rfl,_,rfl,?_⟩;refine dr (fun h1=>?_) (fun h1=>?_)
  ·refine⟨_,rfl,p,_,_,_,rfl,rfl,SqL.of hp,c,_,rfl,_,_,rfl,rfl,a,?_⟩
   refine⟨_,rfl,p,_,_,_,rfl,rfl,SqL.of hp,c,_,rfl,_,_,rfl,rfl,⟨a,hm⟩,_,rfl,p,_,_,0,rfl,rfl,hp,rfl,?_⟩;refine⟨_,rfl,k (x%m) _ (Int.emod_nonneg _ ω) (Int.emod_lt_of_pos _ a) (fun b o hb e=>by rw[ab hb];exact e) ⟨x / m,y,za,Int.ediv_nonneg d ω,?_⟩⟩;rcases g with q|⟨q,hx⟩
   ·exact .inl q
   ·refine .inr ⟨q,Int.lt_of_le_of_lt (Int.ediv_le_self _ d) hx⟩
  ·have hy:y=1/\x<4294967296:=by
    rcases g with q|q
    ·exact absurd (by subst q;rfl) h1
    ·exact q
   obtain⟨rfl,hx⟩:=hy;have hb:CMul x x:=.inl ⟨ω,ω⟩;refine⟨_,rfl,p,_,_,_,rfl,rfl,SqL.of hp,c,_,rfl,p,_,_,_,rfl,rfl,SqL.of hp,c,_,_,rfl,rfl,hb,_,rfl,p,_,_,_,rfl,rfl,SqL.of hp,c,_,_,rfl,rfl,.inl ⟨ξ,ξ⟩,_,_,rfl,rfl,_,_,rfl,rfl,_,_,rfl,rfl,(by show(0:Int)<2147483647;decide),?_⟩;have G:=Int.emod_nonneg (x*x+39373*x+12345) (show(2147483647:Int)≠0 from ξ);have I:=Int.emod_lt_of_pos (x*x+39373*x+12345) (show(0:Int)<2147483647 from ξ);obtain⟨z,l⟩:∃z,z=(x*x+39373*x+12345)%2147483647:=⟨_,rfl⟩;rw[<-l] at G I;show lT _ _ _ ([some (.ref p),some (.int m),none,some (.int ((x*x+39373*x+12345)%2147483647))]:St) H;rw[<-l];refine⟨_,rfl,_,rfl,_,_,rfl,rfl,.inl ⟨ω,ω⟩,_,rfl,_,_,rfl,rfl,.inl ⟨ξ,ξ⟩,_,_,rfl,rfl,_,_,rfl,rfl,_,_,rfl,rfl,(by show(0:Int)<2147483587;decide),_,rfl,p,_,_,0,rfl,rfl,hp,rfl,?_⟩;have v:=Int.emod_nonneg (z*z+16807*z+7) (show(2147483587:Int)≠0 from ξ);have g1:=Int.emod_lt_of_pos (z*z+16807*z+7) (show(0:Int)<2147483587 from ξ);obtain⟨u,r⟩:∃u,u=(z*z+16807*z+7)%2147483587:=⟨_,rfl⟩;rw[<-r] at v g1;have C:upd H p (.lst [.int ((z*z+16807*z+7)%2147483587),.int 1]) p=some (.lst [.int u,.int 1]):=by rw[r];exact za
   refine⟨_,rfl,p,_,_,_,rfl,rfl,SqL.of C,zy (j:=0) rfl,_,_,rfl,rfl,⟨ξ,ξ⟩,_,rfl,_,_,rfl,rfl,a,?_⟩;exact k _ _ (Int.emod_nonneg _ ω) (Int.emod_lt_of_pos _ a) (fun b o hb e=>by rw[ab hb];exact e) ⟨u,1,C,v,.inr ⟨rfl,ω⟩⟩
end
abbrev nG:Stmt:=top 36
abbrev xX:Stmt:=top 37
section
variable{P:Program}{w:World}{K:Af}{mg:Str->Option Value}{base:Heap}
def Jo{H2:Hp}{as:List Addr}{fs:Ξ}{D l:Addr}{Q:VK}(hl:H2 l=some (.lst (as.map V.ref)))(u:Tps H2 as fs)(hz:as.length<=100)(w:H2 D=none)(k:∀bs b,Same H2 b->b D=some (.lst (bs.map V.ref))->Tps b bs (fs.filter fun q=>!decide (q=[]))->Q (.ref D) b):cg (dn K l) (cn 0) (gX (cr (iq true K) (am 0) (c5 bB))) (am 0) [none] H2 D Q:=by
 have C:=u.length;refine zH (xs:=as.map V.ref) (fun j σ ys b=>∃bs v,σ=[v]/\Same H2 b/\b D=some (.lst ys)/\ys=bs.map V.ref/\Tps b bs ((fs.take j).filter fun q=>!decide (q=[]))) ?_ ?_ ?_ ?_
 ·exact⟨[],none,rfl,Same.new w,za,rfl,.nil⟩
 ·rintro j σ ys b ⟨bs,v,rfl,sm,d,rfl,hb⟩
  exact SqL.of (sm _ _ hl)
 ·rintro j σ ys b x hx i hy ⟨bs,v,rfl,sm,d,rfl,hb⟩
  obtain⟨a,A,rfl⟩:=zD hx;obtain⟨f,p,hf⟩:=u.get A;refine⟨_,rfl,zf (by simp),fun t y=>?_⟩;have r:=sm.tp hf;have g:Same b (upd b t (.tup [])):=Same.new y;refine .inl ⟨a,t,f,[],rfl,rfl,g.tp r,za,_,rfl,?_⟩;have s:=sm.trans g;have keep:∀(o:HO) c xs,upd b t (.tup []) c=some (.tup xs)->upd (upd b t (.tup [])) D o c=some (.tup xs):=fun o c xs e=>by
   rw[ab (aF e (g _ _ d) (by intro z;cases z))];exact e
  by_cases h:f=[]
  ·subst h
   refine aW (b7 i hy ⟨bs,_,rfl,s,g _ _ d,rfl,?_⟩);rw[AF p,AK]
   simpa using g.tps hb
  ·rw[if_pos rfl,show(!decide (f=[]))=true by simp[h]]
   refine bb ⟨_,rfl,bx (ys:=bs.map V.ref) (by rw[Aa];exact zf ω) i hy (g _ _ d) ⟨bs++[a],_,rfl,s.then w,za,by rw[Ah];rfl,?_⟩⟩;rw[AF p,AK,show [f].filter (fun q=>!decide (q=[]))=[f] by simp[h]];exact Tps.snoc (Paired.mapP (g.tps hb) fun c xs e=>keep _ c _ e) (keep _ a _ (g.tp r))
 ·rintro σ ys b ⟨bs,v,rfl,sm,d,rfl,hb⟩
  rw[Aa,C,take_all] at hb;exact k bs b sm d hb
def qA:zq ["piece","found","point"] ["piece"] (zh nG):=⟨rfl,rfl,rfl,δ,rfl,δ,δ⟩
def Jp{f:Addr}{fd:FuncData}(F:Fun K "_law_parts" "_law_parts" nG f fd):FnOk P w K mg base aJ 1 f fd ["piece"] qq:=by
 refine F.ok qA (fun vs H Q E h=>?_) (fun cdv A outer s H vs Q E hr h=>?_)
 ·obtain⟨a,ps,rfl,_⟩:=h;rfl
 ·obtain⟨a,ps,rfl,u,h5,k⟩:=h
  have J:=hr.units;refine⟨_,zd (zp (i:=1) qA.nd rfl (Or.inl rfl) (z0 (zb (ei zc) zc)))
   (zd (zK AG rfl (ux (pv 0)) (zk (i:=2) qA.nd rfl (Or.inr rfl))
    (zg (zp (i:=1) qA.nd rfl (Or.inl rfl) (zx mw (pv 1) (zw ["piece","found","point"] ["part","point"] [none,some 2] (zr (pv 1)) (fun g C s₀ H₀ ex=>zk (i:=0) (cF ["part","point"]) rfl (Or.inl rfl)) (fun g C s₀ H₀ ex=>eX)
     (fun g C s₀ H₀ ex=>zx pX (pv 0) (ei (zb (pv 1) zc))) (hfr:=ci (zh nG) δ))))))
   (zg (zu (zw ["piece","found","point"] ["part"] [none] (zr (pv 1)) (fun g C s₀ H₀ ex=>zk (i:=0) (cF ["part"]) rfl (Or.inl rfl)) (fun g C s₀ H₀ ex=>g0 (zt (CD J) (pv 0) (ei zc) (ao _)))
     (fun g C s₀ H₀ ex=>pv 0) (hfr:=c_ δ) (tc:=gX (cr (iq true K) (am 0) (c5 bB))))))),?_⟩
  refine⟨zf (by simp),fun e he=>⟨zf (by simp),fun l hl=>?_⟩⟩;have y:Same H (upd (upd H e (.tup [])) l (.lst [.ref e])):=(Same.new he).then ((Same.new he).free hl);have L:e≠l:=ze (H:=upd H e (.tup [])) za hl;refine⟨_,rfl,a,rfl,⟨_,SqT.of (y _ _ u)⟩,Bs (K:=K) (a:=a) (xs:=ps.map V.int) (fun i σ H2=>∃l as v,σ=[some (.ref a),some (.ref l),v]/\Same H H2/\H l=none/\H2 l=some (.lst (as.map V.ref))/\Tps H2 as (subs (ps.take i)))
   ⟨l,[e],none,rfl,y,(Same.new he).free hl,za,.cons (by show upd _ _ _ e=_;rw[ab L];exact za) .nil⟩ (fun i σ H2 _ ⟨_,_,_,_,sm,_⟩=>SqT.of (sm _ _ u)) ?_ ?_⟩
  ·rintro i x σ H2 hx ⟨l,as,v,rfl,sm,I,hl,c⟩
   obtain⟨q,eq,rfl⟩:=nA hx;have hi:i<ps.length:=(List.getElem?_eq_some_iff.mp eq).1;have p:=c.length;have hn:as.length<=32:=by
    rw[p,qj,Ay];exact fe ω
   have hm:∀f∈subs (ps.take i),f.length<=100:=fun f hf=>by
    have:=CU _ f hf;rw[Ay] at this;omega
   refine⟨_,rfl,_,rfl,l,rfl,⟨_,SqL.of hl⟩,fun D o=>zF (C3 hl c ω hm o fun bs G d b hb=>?_)⟩;have M:=hb.length;rw[Aa] at M;refine⟨l,D,_,_,rfl,rfl,d _ _ hl,b,by rw[Aa,Aa];exact zf ω,fun r j=>?_⟩;have z:H r=none:=(sm.trans d).free j;refine⟨r,as++bs,_,rfl,(sm.trans d).then z,z,by rw[za,Ah],?_⟩;rw[AF eq,xI];exact(Same.new j).tps ((d.tps c).append hb)
  ·rintro σ H2 ⟨l,as,v,rfl,sm,I,hl,c⟩
   rw[Aa,take_all] at c;have p:=c.length;refine⟨_,rfl,l,rfl,⟨_,SqL.of hl⟩,fun D o=>zF (Jo hl c (by rw[p,qj];have:=fe h5;omega) o fun bs G d b hb=>?_)⟩;rw[IW] at hb;exact k D bs G (sm.trans d) (sm.free o) b hb
def Jq{H2:Hp}{bs:List Addr}{fs:Ξ}{D l:Addr}{Q:VK}(hl:H2 l=some (.lst (bs.map V.ref)))(s:Tps H2 bs fs)(hz:bs.length<=1000)(u:H2 D=none)(k:∀(cs:List Addr) a,Same H2 a->a D=some (.lst (cs.map V.ref))->cs.length=bs.length->(∀(i:Nat) c,cs[i]?=some c->∃b f,bs[i]?=some b/\fs[i]?=some f/\a c=some (.tup [.int f.length,.ref b]))->Q (.ref D) a):cg (dn K l) (cn 0) ce (c5 (cD (iO (fun xs H Q=>∃p ys,xs=[V.ref p]/\(SqL K H p ys\/SqT K H p ys)/\Q (.int ys.length) H) (cD (am 0) bB)) (cD (am 0) bB))) [none] H2 D Q:=by
 have F:=s.length;refine zH (xs:=bs.map V.ref) (fun j σ ys a=>∃(cs:List Addr)(v:Option V),σ=[v]/\Same H2 a/\a D=some (.lst ys)/\ys=cs.map V.ref/\cs.length=j/\∀(i:Nat) c,cs[i]?=some c->∃b f,bs[i]?=some b/\fs[i]?=some f/\a c=some (.tup [.int f.length,.ref b])) ?_ ?_ ?_ ?_
 ·exact⟨[],none,rfl,Same.new u,za,rfl,rfl,fun i c e=>by simp at e⟩
 ·rintro j σ ys a ⟨cs,v,rfl,sm,d,rfl,q,hc⟩
  exact SqL.of (sm _ _ hl)
 ·rintro j σ ys a x hx q hy ⟨cs,v,rfl,sm,d,rfl,g,hc⟩
  obtain⟨b,r,rfl⟩:=zD hx;obtain⟨f,y,hf⟩:=s.get r;refine cR ?_;refine⟨_,rfl,b,_,rfl,.inr (SqT.of (sm.tp hf)),_,rfl,zf (by simp),fun t w=>?_⟩;rw[show(f.map V.int).length=f.length from Aa _];have h:Same a (upd a t (.tup [.int f.length,.ref b])):=Same.new w;have keep:∀(o:HO) c xs,upd a t (.tup [.int f.length,.ref b]) c=some (.tup xs)->upd (upd a t (.tup [.int f.length,.ref b])) D o c=some (.tup xs):=fun o c xs e=>by
   rw[ab (aF e (h _ _ d) (by intro z;cases z))];exact e
  refine bx (ys:=cs.map V.ref) (by rw[Aa];exact zf ω) q hy (h _ _ d) ⟨cs++[t],_,rfl,(sm.trans h).then u,za,by rw[Ah];rfl,by rw[Ai,g];rfl,fun i c e=>?_⟩
  by_cases hi:i<cs.length
  ·rw[List.getElem?_append_left hi] at e
   obtain⟨A,C,e1,e2,e3⟩:=hc i c e;exact⟨A,C,e1,e2,keep _ c _ (h _ _ e3)⟩
  ·rw[List.getElem?_append_right ω] at e
   have E:i-cs.length=0:=by
    rcases Nat.eq_zero_or_pos (i-cs.length) with z|z
    ·exact z
    ·rw[List.getElem?_eq_none (by simp only[An,List.length_nil];omega)] at e;cases e
   rw[E] at e;obtain rfl:t=c:=by simpa using e
   have:i=j:=ω
   subst this;exact⟨b,f,r,y,keep _ t _ za⟩
 ·rintro σ ys a ⟨cs,v,rfl,sm,d,rfl,g,hc⟩
  rw[Aa] at g;exact k cs a sm d g hc
def iU(H:Hp)(c:Addr):Addr:=match H c with
 |some (.tup [_,.ref b])=>b
 |_=>0
def Jr{H2:Hp}{cs:List Addr}{D l:Addr}{Q:VK}(hl:H2 l=some (.lst (cs.map V.ref)))(i:∀c∈cs,∃n b,H2 c=some (.tup [.int n,.ref b]))(hz:cs.length<=1000)(g:H2 D=none)(k:∀d,Same H2 d->d D=some (.lst (cs.map fun c=>V.ref (iU H2 c)))->Q (.ref D) d):cg (dn K l) (cn 0) ce (cr (ga K) (am 0) (tC (.int 1))) [none] H2 D Q:=by
 refine zH (xs:=cs.map V.ref) (fun j σ ys d=>∃v,σ=[v]/\Same H2 d/\d D=some (.lst ys)/\ys=(cs.take j).map fun c=>V.ref (iU H2 c)) ?_ ?_ ?_ ?_
 ·exact⟨none,rfl,Same.new g,za,rfl⟩
 ·rintro j σ ys d ⟨v,rfl,sm,a,rfl⟩
  exact SqL.of (sm _ _ hl)
 ·rintro j σ ys d x hx h hy ⟨v,rfl,sm,a,rfl⟩
  obtain⟨c,f,rfl⟩:=zD hx;obtain⟨n,b,e⟩:=i c (Al f);refine cR ?_;refine⟨_,rfl,c,_,_,_,rfl,rfl,SqT.of (sm _ _ e),zy (j:=1) rfl,bx (by rw[Aa];exact zf ω) h hy a ⟨_,rfl,sm.then g,za,?_⟩⟩;rw[AF f,Ah];have:iU H2 c=b:=by unfold iU;rw[e]
  rw[<-this];rfl
 ·rintro σ ys d ⟨v,rfl,sm,a,rfl⟩
  rw[Aa,take_all] at a;exact k d sm a
def nM:zq ["web","found","piece","part","ranked"] ["web"] (zh xX):=⟨rfl,rfl,rfl,δ,rfl,δ,δ⟩
def Js{f fp:Addr}{fd a7:FuncData}(F:Fun K "_law_pieces" "_law_pieces" xX f fd)(B:Bt mg)(Fp:Fun K "_law_parts" "_law_parts" nG fp a7)(bp:Binds K a7 ["piece"] [])(mp:mg "_law_parts"=some (.ref fp)):FnOk P w K mg base aJ 2 f fd ["web"] (nD K):=by
 have Gp:FnOk P w K mg base aJ 1 fp a7 ["piece"] qq:=Jp Fp;refine F.ok nM (fun vs H Q E h=>?_) (fun cdv A outer s H vs Q E hr h=>?_)
 ·obtain⟨l,as,pss,rfl,_⟩:=h;rfl
 ·obtain⟨l,as,pss,rfl,hl,ht,h5,c9,bj,k⟩:=h
  have hu:=gY hr;have aD:=hr.units;refine⟨_,zd (zp (i:=1) nM.nd rfl (Or.inl rfl) iQ)
   (zd (zK AG rfl (zr (pv 0)) (zk (i:=2) nM.nd rfl (Or.inl rfl))
    (zg (zK AG rfl (zr (zn Gp hr rfl mp Fp.kp bp .nil al (zb (pv 2) zc))) (zk (i:=3) nM.nd rfl (Or.inl rfl))
     (zg (ik hu (pv 1) (pv 3) fA rfl)))))
   (zd (zp (i:=4) nM.nd rfl (Or.inl rfl) (zl (H_ aD) rfl B.sorted xM (zb
    (zw ["web","found","piece","part","ranked"] ["piece"] [none] (zr (zm (Co rfl) rfl B.list du (zb (pv 1) zc))) (fun J C s₀ H₀ ex=>zk (i:=0) (cF ["piece"]) rfl (Or.inl rfl)) (fun J C s₀ H₀ ex=>eX)
     (fun J C s₀ H₀ ex=>ei (zb (zl zj rfl B.len cH (zb (pv 0) zc)) (zb (pv 0) zc))) (hfr:=c_ δ) (te:=c5 (cD (iO (fun xs H Q=>∃p ys,xs=[V.ref p]/\(SqL K H p ys\/SqT K H p ys)/\Q (.int ys.length) H) (cD (am 0) bB)) (cD (am 0) bB)))) zc)))
   (zg (zu (zw ["web","found","piece","part","ranked"] ["one"] [none] (zr (pv 4)) (fun J C s₀ H₀ ex=>zk (i:=0) (cF ["one"]) rfl (Or.inl rfl)) (fun J C s₀ H₀ ex=>eX)
     (fun J C s₀ H₀ ex=>cd eT (pv 0) zi (fun _ _=>rfl)) (hfr:=c_ δ) (te:=cr (ga K) (am 0) (tC (.int 1)))))))),?_⟩
  intro d hd;have aw:=ht.length;refine⟨_,rfl,l,rfl,⟨_,(Same.new hd).seq hl⟩,zC (K:=K) (a:=l) (xs:=as.map V.ref) (fun i σ H2=>∃v G u,σ=[some (.ref l),some (.ref d),v,G,u]/\Same H H2/\H2 d=some (.dT (dB ((pss.take i).flatMap parts))))
   ⟨none,none,none,rfl,Same.new hd,za⟩ (fun i σ H2 _ ⟨_,_,_,_,sm,_⟩=>sm.seq hl) ?_ ?_⟩
  ·rintro i x σ H2 hx ⟨v,G,u,rfl,sm,M⟩
   obtain⟨a,ea,rfl⟩:=zD hx;obtain⟨ps,aH,aN⟩:=ht.get ea;have bS:=h5 ps (Al aH);have hi:i<pss.length:=(List.getElem?_eq_some_iff.mp aH).1;refine⟨_,rfl,a,ps,rfl,sm.tp aN,bS,fun D cs o r bH L hcs=>⟨D,rfl,⟨_,SqL.of L⟩,?_⟩⟩;have gJ:=hcs.length;have ju:D≠d:=aF L (r _ _ M) (by intro z;cases z);refine zC (K:=K) (a:=D) (xs:=cs.map V.ref) (fun j σ I=>∃G,σ=[some (.ref l),some (.ref d),some (.ref a),G,u]/\Same H I/\I D=some (.lst (cs.map V.ref))/\Tps I cs (parts ps)/\I d=some (.dT (dB ((pss.take i).flatMap parts++(parts ps).take j))))
    ⟨_,rfl,sm.trans r,L,hcs,by rw[List.take_zero,AN];exact r _ _ M⟩ (fun j σ I _ ⟨_,_,_,q,_⟩=>SqL.of q) ?_ ?_
   ·rintro j x σ I hx ⟨G,rfl,aC,aR,aS,N⟩
    obtain⟨c,ec,rfl⟩:=zD hx;obtain⟨f,ef,hf⟩:=aS.get ec;have O:(dB ((pss.take i).flatMap parts++(parts ps).take j)).length<sizeLine:=by
     refine zM (AD (xR _) ?_);rw[Ai];have h1:=xT (pss.take i) (fun q hq=>h5 q (List.mem_of_mem_take hq));have h2:=la ps;have h3:=fe bS;rw[Ay] at h1 ⊢;omega
    refine⟨_,rfl,_,rfl,d,_,rfl,DPut.t (k:=f.map Sum.inl) N (by rw[Ap];exact hf) O,⟨_,rfl,aC.then hd,?_,?_,?_⟩⟩
    ·rw[ab ju];exact aR
    ·exact Tps.upd aS N (by intro xs z;cases z)
    ·rw[za,xS,List.append_assoc,<-AF ef]
   ·rintro σ I ⟨G,rfl,aC,aR,aS,N⟩
    refine⟨_,_,_,rfl,aC,?_⟩;rw[Aa,gJ,take_all] at N;rw[C6 aH];exact N
  ·rintro σ H2 ⟨v,G,u,rfl,sm,M⟩
   rw[Aa,aw,take_all] at M;refine⟨_,rfl,d,_,rfl,M,fun bs hb l2 W=>?_⟩;have tb:=C5 hb;have gT:=tb.length;have hW:(dd (pss.flatMap parts)).length<=620:=by
    have h1:=ir (pss.flatMap parts);have h2:=xT pss h5;omega
   have U:Same H2 (upd H2 l2 (.lst (bs.map V.ref))):=Same.new W;refine⟨l2,rfl,⟨_,SqL.of za⟩,fun D L=>zF (Jq (K:=K) za (U.tps tb) ω L fun cs o r X hcl hc=>?_)⟩;have dR:=r.tps (U.tps tb);refine⟨D,cs,(dd (pss.flatMap parts)).map fun f=>((f.length:Int)::f),rfl,SqL.of X,?_,(by rw[Aa];exact bj),fun R g hp hs hR=>?_⟩
   ·refine Paired.of_at (by rw[Aa];omega) fun i c y e1 e2=>?_
    obtain⟨b,f,g1,g2,g3⟩:=hc i c e1;rw[Ak,g2] at e2;obtain rfl:=Am e2;exact⟨_,b,f,rfl,g3,iR dR i b f g1 g2⟩
   ·have S:Same o (upd o R (.lst (g.map fun q=>V.ref q.2))):=Same.new hR
    have hq:∀q∈g,∃b f,q.1=((f:List Int).length:Int)::f/\o q.2=some (.tup [.int f.length,.ref b])/\Tp o b f:=fun q hq=>by
     obtain⟨m,em⟩:=List.mem_iff_getElem?.mp (hp.mem_iff.mp hq);rw[bD.bw,Ak] at em;cases e2:cs[m]? with
     |none=>rw[e2] at em;cases h:(dd (pss.flatMap parts))[m]?<;>rw[h] at em<;>cases em
     |some c=>
      obtain⟨b,f,g1,g2,g3⟩:=hc m c e2;rw[g2,e2] at em;obtain rfl:(((f.length:Int)::f),c)=q:=Am em;exact⟨b,f,rfl,g3,iR dR m b f g1 g2⟩
    have hql:g.length<=620:=by rw[hp.length_eq,List.length_zip,Aa];omega
    refine⟨_,rfl,R,rfl,⟨_,SqL.of za⟩,fun D2 a9=>zF (Jr (K:=K) (cs:=g.map (·.2)) (by rw[za,Ap];rfl) (fun c tL=>?_) (by rw[Aa];omega) a9 fun H5 cW cz=>?_)⟩
    ·obtain⟨q,Y,rfl⟩:=List.mem_map.mp tL
     obtain⟨b,f,_,g2,_⟩:=hq q Y;exact⟨_,b,S _ _ g2⟩
    ·have sAll:Same H H5:=((sm.trans U).trans r).trans (S.trans cW)
     have snd:∀q∈g,∀b f,o q.2=some (.tup [.int (f:List Int).length,.ref b])->iU (upd o R (.lst (g.map fun q=>V.ref q.2))) q.2=b:=fun q _ b f e=>by
      unfold iU;rw[S _ _ e]
     refine k D2 H5 (g.map fun q=>(q.1.tail,iU (upd o R (.lst (g.map fun q=>V.ref q.2))) q.2)) ⟨sAll,(((sm.trans U).trans r).trans S).free a9,?_,fun q Y=>?_,?_,?_⟩
     ·rw[cz,Ap,Ap];rfl
     ·obtain⟨T,h0,rfl⟩:=List.mem_map.mp Y
      obtain⟨b,f,g1,g2,g3⟩:=hq T h0;show Tp H5 (iU _ T.2) T.1.tail;rw[snd T h0 b f g2,g1];exact cW.tp (S.tp g3)
     ·rw[Ap]
      have h1:=hp.map (fun q:List Int×Addr=>q.1.tail);have e:((((dd (pss.flatMap parts)).map fun f=>((f.length:Int)::f)).zip cs).map fun q:List Int×Addr=>q.1.tail)=dd (pss.flatMap parts):=by
       rw[show(fun q:List Int×Addr=>q.1.tail)=(fun l:List Int=>l.tail) ∘ Prod.fst from rfl,<-Ap,List.map_fst_zip (by rw[Aa];omega),Ap];exact List.map_id' _
      rw[e] at h1;exact h1
     ·rw[A2]
      refine hs.imp_of_mem fun{p q} h1 h2 h3=>?_;obtain⟨_,f,g1,_⟩:=hq p h1;obtain⟨_,f',oU,_⟩:=hq q h2;rw[g1,oU] at h3;rw[g1,oU];exact h3
end
abbrev qD:Stmt:=top 38
abbrev nO:Stmt:=top 39
def texts:List Str:=(["","0","01 12 02","012 013 023 123","01 02 03","012 023 034 014","0123","01 23 45","012 34"]:List Str)++(["012 123 234 034 014","01 12 23 03 13","012 013 014","0 1 2 3"]:List Str)++(["01 12 02 34 45 35","023 234 1"]:List Str)
++(["014 015 023 025 034 123 124 135 245 345","012 013 024 034 125 135 245 345"]:List Str)++(["01234","0123 0124 0134 0234 1234"]:List Str)++(["013 123 234 024 014 145 125 025 056 016 126 267 027 037 345 356 367"]:List Str)
def wordsOf(n:Nat):List Str:=Txt.split (texts.getD n "") " "
def digits(x:Str):List Int:=x.cps.toList.map fun(c:Nat)=>((c:Int)-48)
def known(n:Nat):Ξ:=((wordsOf n).filter fun(x:Str)=>!decide (x="")).map digits
def Jt:∀n,n<20->(texts.getD n "").length+2<=1000/\(wordsOf n).length<=20/\∀x∈wordsOf n,x.cps.size<=5/\∀c∈x.cps.toList,48<=c/\c<=57:=δ
def Ju:∀c,48<=c->c<=57->intText? ⟨#[c]⟩=some ((c:Int)-48):=by
 intro c h1 h2;have:∀c,c<58->48<=c->intText? ⟨#[c]⟩=some ((c:Int)-48):=δ
 exact this c ω h1
section
variable{P:Program}{w:World}{K:Af}{mg:Str->Option Value}{base:Heap}
def Da:Sp:=fun vs H Q _=>∃n:Nat,vs=[.int n]/\n<20/\∀D as H',Same H H'->H D=none->H' D=some (.lst (as.map V.ref))->Tps H' as (known n)->Q (.ref D) H'
def jL:zq ["number","some","web","word"] ["number"] (zh qD):=⟨rfl,rfl,rfl,δ,rfl,δ,δ⟩
def Jv{H2:Hp}{x:Str}{D:Addr}{Q:VK}(hx:x.cps.size<=5)(hc:∀c∈x.cps.toList,48<=c/\c<=57)(f:H2 D=none)(k:∀b,Same H2 b->b D=some (.lst ((digits x).map V.int))->Q (.ref D) b):cg (qg x) (cn 0) ce (iO (fun xs H Q=>∃x n,xs=[.str x]/\intText? x=some n/\x.length<=640/\Q (.int n) H) (cD (am 0) bB)) [none] H2 D Q:=by
 refine IV (fun j σ ys b=>∃v,σ=[v]/\Same H2 b/\b D=some (.lst ys)/\ys=((digits x).take j).map V.int) ?_ ?_ ?_
 ·exact⟨none,rfl,Same.new f,za,rfl⟩
 ·rintro j σ ys b c g h hy ⟨v,rfl,sm,a,rfl⟩
  have d:x.cps.toList[j]?=some c:=by simpa using g
  obtain⟨i,l⟩:=hc c (Al d);refine cR ?_;refine⟨_,rfl,⟨#[c]⟩,_,rfl,Ju c i l,by show 1<=640;decide,bx (zf ω) h hy a ⟨_,rfl,sm.then f,za,?_⟩⟩;have e:(digits x)[j]?=some ((c:Int)-48):=by unfold digits;rw[Ak,d];rfl
  rw[AF e,Ah];rfl
 ·rintro σ ys b ⟨v,rfl,sm,a,rfl⟩
  rw[Ax (by unfold digits;simp)] at a;exact k b sm a
def Jw{f:Addr}{fd:FuncData}(F:Fun K "_law_known" "_law_known" qD f fd)(B:Bt mg):FnOk P w K mg base aJ 1 f fd ["number"] Da:=by
 refine F.ok jL (fun vs H Q E h=>?_) (fun cdv A outer s H vs Q E hr h=>?_)
 ·obtain⟨n,rfl,_⟩:=h;rfl
 ·obtain⟨n,rfl,hn,k⟩:=h
  refine⟨_,zd (zp (i:=1) jL.nd rfl (Or.inl rfl) (z0 (zb zT (zb zT (zb zT (zb zT (zb zT (zb zT (zb zT (zb zT (zb zT zc)))))))))))
   (zd (zp (i:=1) jL.nd rfl (Or.inl rfl) (zx mw (pv 1) (z0 (zb zT (zb zT (zb zT (zb zT (zb zT (zb zT zc)))))))))
   (zd (zp (i:=1) jL.nd rfl (Or.inl rfl) (zx mw (pv 1) (z0 (zb zT (zb zT zc)))))
   (zd (zp (i:=1) jL.nd rfl (Or.inl rfl) (zx mw (pv 1) (z0 (zb zT (zb zT zc)))))
   (zd (gN (eU PySem.F.plainAttrs_list PySem.F.slot_list_append PySem.F.type_list_append ig (pv 1) (zb zT zc)))
   (zd (zp (i:=2) jL.nd rfl (Or.inl rfl) (z0 zc))
   (zd (zK AG rfl (zr (eU PySem.F.plainAttrs_str PySem.F.slot_str_split PySem.F.type_str_split IT (cd zU (pv 1) (zx fH (pv 0) zi) (fun _ _=>rfl)) (zb zT zc))) (zk (i:=3) jL.nd rfl (Or.inl rfl))
    (zg (cY (zt kI (pv 3) zT (ao _))
     (zg (gN (eU PySem.F.plainAttrs_list PySem.F.slot_list_append PySem.F.type_list_append ig (pv 2) (zb (zm ve rfl B.tuple xN (zb
      (zw ["number","some","web","word"] ["sign"] [none] (IU (pv 3)) (fun I C s₀ H₀ ex=>zk (i:=0) (cF ["sign"]) rfl (Or.inl rfl)) (fun I C s₀ H₀ ex=>eX)
       (fun I C s₀ H₀ ex=>zm HX rfl B.int Ja (zb (pv 0) zc)) (hfr:=c_ δ)) zc)) zc)))) zE)))
   (zg (zu (pv 2))))))))),?_⟩
  have t20:texts.length=20:=rfl;have gn:ew (texts.map V.str) ((n:Int)%20)=some (.str (texts.getD n "")):=by
   rw[show(n:Int)%20=(n:Int) from ω];refine zy ?_;have e:texts[n]?=some texts[n]:=Ae ω;rw[Ak,List.getD_eq_getElem?_getD,e];rfl
  obtain⟨g1,g2,g3⟩:=Jt n hn;refine⟨zf (by simp),fun U h1=>?_⟩;have s1:=Same.new (H:=H) (o:=.lst [.str "",.str "0",.str "01 12 02",.str "012 013 023 123",.str "01 02 03",.str "012 023 034 014",.str "0123",.str "01 23 45",.str "012 34"]) h1;refine⟨_,rfl,zf (by simp),fun W J=>⟨U,W,_,_,rfl,rfl,Same.new J _ _ za,za,zf (by simp),fun X h3=>?_⟩⟩;have s3:=(s1.trans (Same.new J)).trans (Same.new (o:=.lst ((texts.take 15).map V.str)) h3);refine⟨_,rfl,zf (by simp),fun Y L=>⟨X,Y,_,_,rfl,rfl,Same.new L _ _ za,za,zf (by simp),fun l4 h4=>?_⟩⟩;have N:=(s3.trans (Same.new L)).trans (Same.new (o:=.lst ((texts.take 17).map V.str)) h4);refine⟨_,rfl,zf (by simp),fun m4 p=>⟨l4,m4,_,_,rfl,rfl,Same.new p _ _ za,za,zf (by simp),fun c h5=>?_⟩⟩;have s5:=(N.trans (Same.new p)).trans (Same.new (o:=.lst ((texts.take 19).map V.str)) h5);have rS:H c=none:=(N.trans (Same.new p)).free h5;refine⟨_,rfl,.inl ⟨rfl,_,SqL.of za⟩,c,_,_,rfl,rfl,za,zM (by simp),zf (by simp),fun b r=>?_⟩;generalize hH6:upd (upd _ c _) c _=H6 at r;have e6:H6 c=some (.lst (texts.map V.str)):=by rw[<-hH6,za];rfl
  have O:Same H H6:=by
   rw[<-hH6];exact s5.then rS
  have d:H b=none:=O.free r;have S:Same H (upd H6 b (.lst [])):=O.then d;have e7:upd H6 b (.lst []) c=some (.lst (texts.map V.str)):=Same.new r _ _ e6;refine⟨_,rfl,_,rfl,_,_,rfl,rfl,(by show(0:Int)<20;decide),c,_,_,_,rfl,rfl,SqL.of e7,gn,rfl,_,_,rfl,rfl,ξ,zf ω,zf (show(wordsOf n).length<=100000 from ω),fun D M=>⟨D,rfl,⟨_,SqL.of za⟩,?_⟩⟩;have T:b≠D:=ze (H:=upd H6 b (.lst [])) za M;have bH:H D=none:=S.free M;refine zC (K:=K) (a:=D) (xs:=(wordsOf n).map V.str) (fun i σ H2=>∃as v,σ=[some (.int n),some (.ref c),some (.ref b),v]/\Same H H2/\H2 D=some (.lst ((wordsOf n).map V.str))/\H2 b=some (.lst (as.map V.ref))/\Tps H2 as ((((wordsOf n).take i).filter fun(x:Str)=>!decide (x="")).map digits))
   ⟨[],none,rfl,S.then bH,za,by rw[ab T];exact za,.nil⟩ (fun i σ H2 _ ⟨_,_,_,_,q,_⟩=>SqL.of q) ?_ ?_
  ·rintro i x σ H2 hx ⟨as,v,rfl,sm,G,g,j⟩
   rw[Ak] at hx;cases ex:(wordsOf n)[i]? with
   |none=>rw[ex] at hx;cases hx
   |some y=>
    rw[ex] at hx;obtain rfl:=Am hx;have hi:i<(wordsOf n).length:=(List.getElem?_eq_some_iff.mp ex).1;obtain⟨y5,yc⟩:=g3 y (Al ex);refine⟨_,rfl,rfl,_,rfl,?_⟩
    by_cases hy:y=""
    ·subst hy
     refine aW ⟨as,_,rfl,sm,G,g,?_⟩;rw[AF ex,AK,Ah]
     simpa using j
    ·rw[show(!decide (V.str y=V.str ""))=true from by simp[hy]]
     refine bb ⟨_,rfl,.inl ⟨rfl,_,SqL.of g⟩,_,rfl,y,rfl,fun D2 u1=>zF (Jv y5 yc u1 fun H3 ay u=>⟨D2,_,rfl,.inl ⟨SqL.of u,fun t bM=>?_⟩⟩)⟩;have l:Same H2 (upd H3 t (.tup ((digits y).map V.int))):=ay.trans (Same.new bM);have aw:=j.length;have gc:as.length<=20:=by
      rw[aw,Aa];exact AD (List.length_filter_le _ _) (by rw[Ay];omega)
     refine⟨b,_,_,rfl,rfl,l _ _ g,zM (by rw[Aa];omega),⟨as++[t],_,rfl,(sm.trans l).then d,?_,by rw[za,Ah];rfl,?_⟩⟩
     ·rw[ab T.symm];exact l _ _ G
     ·rw[AF ex,AK,Ah,show [y].filter (fun(x:Str)=>!decide (x=""))=[y] by simp[hy]]
      exact Tps.upd (Tps.snoc (l.tps j) za) (l _ _ g) (by intro xs z;cases z)
  ·rintro σ H2 ⟨as,v,rfl,sm,G,g,j⟩
   rw[Aa,take_all] at j;exact⟨_,rfl,k b as H2 sm d g j⟩
def ren(first a:Int)(ps:List Int):List Int:=ps.map fun x=>first+a*x
def Db:Sp:=fun vs H Q _=>∃p l as pss,vs=[.ref p,.ref l]/\zak H p/\H l=some (.lst (as.map V.ref))/\Tps H as pss/\pss.length<=20/\(∀ps∈pss,ps.length<=10)/\
 ∀D bs b first a H',zaq p H H'->zak H' p->H D=none->H' D=some (.lst (bs.map V.ref))->Tps H' bs b->0<=first->first<12->1<=a->a<=3->b.Perm (pss.map (ren first a))->Q (.ref D) H'
def nP:zq ["box","web","gap","first","found","piece"] ["box","web"] (zh nO):=⟨rfl,rfl,rfl,δ,rfl,δ,δ⟩
def Jx{H2:Hp}{a D:Addr}{ps:List Int}{first d:Int}{Q:VK}(h:Tp H2 a ps)(hz:ps.length<=10)(l:1<=d/\d<=3)(f:H2 D=none)(k:∀c,Same H2 c->c D=some (.lst ((ren first d ps).map V.int))->Q (.ref D) c):cg (jk K a) (cn 0) ce (cr (fX fun i j=>.int (i+j)) (am 1) (cr (rI CMul fun i j=>.int (i*j)) (am 2) (am 0))) [none,some (.int first),some (.int d)] H2 D Q:=by
 refine HM (xs:=ps.map V.int) (fun j σ ys c=>∃v,σ=[v,some (.int first),some (.int d)]/\Same H2 c/\c D=some (.lst ys)/\ys=((ren first d ps).take j).map V.int) ?_ ?_ ?_ ?_
 ·exact⟨none,rfl,Same.new f,za,rfl⟩
 ·rintro j σ ys c ⟨v,rfl,sm,b,rfl⟩
  exact SqT.of (sm.tp h)
 ·rintro j σ ys c x hx g hy ⟨v,rfl,sm,b,rfl⟩
  obtain⟨q,eq,rfl⟩:=nA hx;refine cR ?_;refine⟨_,rfl,_,rfl,_,rfl,_,_,rfl,rfl,.inl ⟨ω,ω⟩,_,_,rfl,rfl,bx (by rw[Aa];exact zf ω) g hy b ⟨_,rfl,sm.then f,za,?_⟩⟩;have e:(ren first d ps)[j]?=some (first+d*q):=by unfold ren;rw[Ak,eq];rfl
  rw[AF e,Ah];rfl
 ·rintro σ ys c ⟨v,rfl,sm,b,rfl⟩
  rw[Ax (by unfold ren;simp)] at b;exact k c sm b
def Jy{f L:Addr}{fd M:FuncData}(F:Fun K "_law_named" "_law_named" nO f fd)(B:Bt mg)(Ft:Fun K "_law_take" "_law_take" nF L M)(bt:Binds K M ["box","most"] [])(mt:mg "_law_take"=some (.ref L)):FnOk P w K mg base aJ 2 f fd ["box","web"] Db:=by
 have N:FnOk P w K mg base aJ 1 L M ["box","most"] qy:=xW Ft;refine F.ok nP (fun vs H Q E h=>?_) (fun cdv A outer s H vs Q E hr h=>?_)
 ·obtain⟨p,l,as,pss,rfl,_⟩:=h;rfl
 ·obtain⟨p,l,as,pss,rfl,hb,hl,U,c9,vW,k⟩:=h
  refine⟨_,zd (zp (i:=2) nP.nd rfl (Or.inr rfl) (zx eR zi (zn N hr rfl mt Ft.kp bt .nil al (zb (pv 0) (zb zi zc)))))
   (zd (zp (i:=3) nP.nd rfl (Or.inr rfl) (zn N hr rfl mt Ft.kp bt .nil al (zb (pv 0) (zb zi zc))))
   (zd (zp (i:=4) nP.nd rfl (Or.inl rfl) (z0 zc))
   (zd (zK AG rfl (zr (pv 1)) (zk (i:=5) nP.nd rfl (Or.inl rfl))
    (zg (gN (eU PySem.F.plainAttrs_list PySem.F.slot_list_insert PySem.F.type_list_insert HW (pv 4)
     (zb (zn N hr rfl mt Ft.kp bt .nil al (zb (pv 0) (zb (zx eR (zl zj rfl B.len cH (zb (pv 4) zc)) zi) zc)))
     (zb (zm ve rfl B.tuple xN (zb
      (zw ["box","web","gap","first","found","piece"] ["point","first","gap"] [none,some 3,some 2] (ux (pv 5)) (fun O C s₀ H₀ ex=>zk (i:=0) (cF ["point","first","gap"]) rfl (Or.inl rfl)) (fun O C s₀ H₀ ex=>eX)
       (fun O C s₀ H₀ ex=>zx eR (pv 1) (zx gS (pv 2) (pv 0))) (hfr:=ci (zh nO) δ)) zc)) zc))))))
   (zg (zu (pv 4)))))),?_⟩
  refine⟨_,rfl,p,3,rfl,hb,ξ,ξ,fun d H1 a1 a2 ib bZ=>⟨_,_,rfl,rfl,?_⟩⟩;refine⟨_,rfl,p,12,rfl,bZ,ξ,ξ,fun e H2 c1 c2 nC S=>⟨zf (by simp),fun D T=>?_⟩⟩;have J:=ib.trans nC;have y:H D=none:=J.free hb S T;have W:l≠p:=hb.ne hl;have aw:=U.length;refine⟨_,rfl,l,rfl,⟨_,SqL.of ((J.then y) _ _ W hl)⟩,zC (K:=K) (a:=l) (xs:=as.map V.ref) (fun i σ g=>∃bs b v,σ=[some (.ref p),some (.ref l),some (.int (1+d)),some (.int e),some (.ref D),v]/\zaq p H g/\zak g p/\g D=some (.lst (bs.map V.ref))/\Tps g bs b/\b.Perm ((pss.take i).map (ren e (1+d))))
   ⟨[],[],none,rfl,J.then y,S.new T,za,.nil,List.Perm.nil⟩ (fun i σ g _ ⟨_,_,_,_,sb,_⟩=>SqL.of (sb _ _ W hl)) ?_ ?_⟩
  ·rintro i x σ g hx ⟨bs,b,v,rfl,u,j,c,hq,hp⟩
   obtain⟨a,ea,rfl⟩:=zD hx;obtain⟨ps,I,aN⟩:=U.get ea;have hi:i<pss.length:=(List.getElem?_eq_some_iff.mp I).1;have gT:=hq.length;have hql:b.length=i:=by rw[hp.length_eq,Aa,Ay];omega
   have o:D≠p:=j.ne c;refine⟨_,rfl,.inl ⟨rfl,_,SqL.of c⟩,_,rfl,_,rfl,D,_,rfl,.inl (SqL.of c),_,_,rfl,rfl,p,_,rfl,j,by rw[Aa];omega,by rw[Aa];omega,fun r H4 r0 iG q cK=>?_⟩;rw[Aa] at iG;have X:Tp H4 a ps:=(u.trans q).tp hb aN;refine⟨_,rfl,a,rfl,⟨_,SqT.of X⟩,fun D2 a9=>zF (Jx X (vW ps (Al I)) ⟨ω,ω⟩ a9 fun H5 cW cz=>⟨D2,_,rfl,.inl ⟨SqL.of cz,fun t bM=>?_⟩⟩)⟩;have G:Same H4 (upd H5 t (.tup ((ren e (1+d) ps).map V.int))):=cW.trans (Same.new bM);have aR:=q _ _ o c;have Y:=G _ _ aR;have il:=cK.same G;refine⟨D,_,r,_,rfl,rfl,Y,r0,by rw[Aa];omega,zM (by rw[Aa];omega),⟨bs.take r.toNat++t::bs.drop r.toNat,b.take r.toNat++ren e (1+d) ps::b.drop r.toNat,_,rfl,((u.trans q).trans (zaq.of G)).then y,il.upd o,?_,?_,?_⟩⟩
   ·rw[za,Ah,Av,List.map_take,List.map_drop]
   ·have tq:=G.tps (q.tps j hq)
    exact Tps.upd (Tps.append (tq.take _) (.cons za (tq.drop _))) Y (by intro xs z;cases z)
   ·rw[AF I,Ah]
    have h1:(b.take r.toNat++ren e (1+d) ps::b.drop r.toNat).Perm (ren e (1+d) ps::b):=by
     have:=List.perm_middle (a:=ren e (1+d) ps) (l₁:=b.take r.toNat) (l₂:=b.drop r.toNat)
     rwa [List.take_append_drop] at this
    exact h1.trans ((List.perm_append_singleton _ _).symm.trans (List.Perm.append_right _ hp))
  ·rintro σ g ⟨bs,b,v,rfl,u,j,c,hq,hp⟩
   rw[Aa,aw,take_all] at hp;exact⟨_,rfl,k D bs b e (1+d) g u j y c hq c1 c2 ω ω hp⟩
end
abbrev jN:Stmt:=top 40
def g_(seq:List Int):List (Key×V):=(dd seq).map fun n=>((Sum.inl n:Key),V.bl true)
def Jz(seq:List Int):(g_ seq).length<=seq.length:=by unfold g_;rw[Aa];exact ir seq
def JA(seq:List Int)(n:Int):putK (g_ seq) (Sum.inl n) (.bl true)=g_ (seq++[n]):=by
 unfold putK g_;rw[nv];have a:(((dd seq).map fun n=>((Sum.inl n:Key),V.bl true)).any fun kv=>decide (kv.1=Sum.inl n))=decide (n∈dd seq):=by
  rw[List.any_map]
  by_cases h:n∈dd seq
  ·rw[decide_eq_true h,List.any_eq_true]
   exact⟨n,h,by simp⟩
  ·rw[decide_eq_false h,List.any_eq_false]
   intro q hq;simp only[Function.comp,decide_eq_true_eq,Sum.inl.injEq];rintro rfl;exact h hq
 rw[a]
 by_cases h:n∈dd seq
 ·rw[decide_eq_true h,if_pos rfl,if_pos h,Ap]
  refine AJ fun q hq=>?_;simp only[Function.comp];split<;>rfl
 ·rw[decide_eq_false h,if_neg (by simp),if_neg h,Ah]
  rfl
def JB(seq:List Int):((g_ seq).map fun kv=>kV kv.1)=(dd seq).map V.int:=by unfold g_;rw[Ap];rfl
def JC{c:List Int}(h1:c.Pairwise (·<=·))(h2:c.Nodup):aT c=true:=by
 rw[xL];intro i a b f hb;obtain⟨d,g⟩:=List.getElem?_eq_some_iff.mp f;obtain⟨e,h⟩:=List.getElem?_eq_some_iff.mp hb;have g1:=List.pairwise_iff_getElem.mp h1 i (i+1) d e ω;have g2:=List.pairwise_iff_getElem.mp h2 i (i+1) d e ω;rw[g,h] at g1 g2;omega
def eC(pss:Ξ):Prop:=pss.Nodup/\∀ps∈pss,ps≠[]/\ps.length<=4/\aT ps=true/\∀x∈ps,0<=x/\x<=5
def Base(b:Ξ):Prop:=(∃n,n<20/\b=known n)\/(b.length<=5/\eC b)
def Drawn(c:Ξ):Prop:=∃b first a,Base b/\0<=first/\first<12/\1<=a/\a<=3/\c.Perm (b.map (ren first a))
def JD:∀n,n<20->(known n).length<=20/\∀ps∈known n,ps≠[]/\ps.length<=5:=δ
section
variable{P:Program}{w:World}{K:Af}{mg:Str->Option Value}{base:Heap}
def Dc:Sp:=fun vs H Q _=>∃p,vs=[.ref p]/\zak H p/\∀D bs a H',zaq p H H'->zak H' p->H D=none->H' D=some (.lst (bs.map V.ref))->Tps H' bs a->Drawn a->Q (.ref D) H'
def lj:zq ["box","found","k","some","j","piece"] ["box"] (zh jN):=⟨rfl,rfl,rfl,δ,rfl,δ,δ⟩
def JE{f ft fn fk:Addr}{fd cy mL ck:FuncData}(F:Fun K "_law_web" "_law_web" jN f fd)(B:Bt mg)(Ft:Fun K "_law_take" "_law_take" nF ft cy)(bt:Binds K cy ["box","most"] [])(mt:mg "_law_take"=some (.ref ft))(Fn:Fun K "_law_named" "_law_named" nO fn mL)(bn:Binds K mL ["box","web"] [])(mn:mg "_law_named"=some (.ref fn))(Fk:Fun K "_law_known" "_law_known" qD fk ck)(bk:Binds K ck ["number"] [])(mk:mg "_law_known"=some (.ref fk)):FnOk P w K mg base aJ 3 f fd ["box"] Dc:=by
 have Gt:FnOk P w K mg base aJ 1 ft cy ["box","most"] qy:=xW Ft;have Gn:FnOk P w K mg base aJ 2 fn mL ["box","web"] Db:=Jy Fn B Ft bt mt;have Gk:FnOk P w K mg base aJ 1 fk ck ["number"] Da:=Jw Fk B;refine F.ok lj (fun vs H Q E h=>?_) (fun cdv A outer s H vs Q E hr h=>?_)
 ·obtain⟨p,rfl,_⟩:=h;rfl
 ·obtain⟨p,rfl,hb,k⟩:=h
  have hu:=gY hr;have aD:=hr.units;have g:Room 1 _:=hr.mono ξ;refine⟨_,zd (cY (zt gU (zn Gt g rfl mt Ft.kp bt .nil al (zb (pv 0) (zb zi zc))) zi (ao _))
    (zg (zu (zn Gn hr rfl mn Fn.kp bn .nil al (zb (pv 0) (zb (zn Gk g rfl mk Fk.kp bk .nil al (zb (zn Gt g rfl mt Ft.kp bt .nil al (zb (pv 0) (zb zi zc))) zc)) zc))))) zE)
   (zd (zp (i:=1) lj.nd rfl (Or.inl rfl) (z0 zc))
   (zd (zK AG rfl (l' rfl B.range (zb (zn Gt g rfl mt Ft.kp bt .nil al (zb (pv 0) (zb zi zc))) zc)) (zk (i:=2) lj.nd rfl (Or.inl rfl))
    (zd (zp (i:=3) lj.nd rfl (Or.inl rfl) pL)
    (zd (zK AG rfl (l' rfl B.range (zb (zx eR zi (zn Gt g rfl mt Ft.kp bt .nil al (zb (pv 0) (zb zi zc)))) zc)) (zk (i:=4) lj.nd rfl (Or.inl rfl))
     (zg (ik hu (pv 3) (zn Gt g rfl mt Ft.kp bt .nil al (zb (pv 0) (zb zi zc))) fA rfl)))
    (zd (zp (i:=5) lj.nd rfl (Or.inl rfl) (zm ve rfl B.tuple xN (zb (zl HY rfl B.sorted xM (zb (zm (HP rfl) rfl B.list du (zb (pv 3) zc)) zc)) zc)))
    (zg (cY (zt (Cz (in1_units aD)) (pv 5) (pv 1) (by with_unfolding_all rfl)) (zg (gN (eU PySem.F.plainAttrs_list PySem.F.slot_list_append PySem.F.type_list_append ig (pv 1) (zb (pv 5) zc)))) zE))))))
   (zg (zu (zn Gn hr rfl mn Fn.kp bn .nil al (zb (pv 0) (zb (pv 1) zc))))))),?_⟩
  refine⟨_,rfl,p,2,rfl,hb,ξ,ξ,fun r H1 r0 r1 ib bZ=>⟨rfl,_,rfl,?_⟩⟩;refine dr (fun h1=>?_) (fun h1=>?_)
  ·refine⟨_,rfl,_,rfl,p,20,rfl,bZ,ξ,ξ,fun n H2 n0 n1 nC cE=>?_⟩
   obtain⟨m,rfl⟩:=Int.eq_ofNat_of_zero_le n0;refine⟨m,rfl,ω,fun D as H3 ay bH hD ht=>?_⟩;obtain⟨g1,g2⟩:=JD m ω;have U:=(ib.trans nC).trans (zaq.of ay);have bv:=cE.same ay;refine⟨p,D,as,known m,rfl,bv,hD,ht,g1,fun ps hp=>by have:=(g2 ps hp).2;omega,fun D' bs aB first au G I v eK aR O c1 c2 c3 c4 c=>?_⟩;exact k D' bs aB G (U.trans I) v (U.free hb bv eK) aR O ⟨known m,first,au,.inl ⟨m,ω,rfl⟩,c1,c2,c3,c4,c⟩
  ·refine⟨zf (by simp),fun L hL=>?_⟩
   have hL0:H L=none:=ib.free hb bZ hL;refine⟨_,rfl,p,6,rfl,bZ.new hL,ξ,ξ,fun r6 H3 a1 a2 U bv=>⟨r6,rfl,ω,ω,?_⟩⟩;have kL:L≠p:=zak.ne (as:=[]) (bZ.new hL) za;have mX:zaq p H H3:=(ib.then hL0).trans U;refine pk (lo:=0) (n:=r6.toNat) (fun i σ G=>∃as pss v2 v3 J v5,σ=[some (.ref p),some (.ref L),v2,v3,J,v5]/\zaq p H G/\zak G p/\G L=some (.lst (as.map V.ref))/\Tps G as pss/\eC pss/\pss.length<=i)
    ⟨[],[],none,none,none,none,rfl,mX,bv,U _ _ kL za,.nil,⟨A7,fun ps h=>nomatch h⟩,Ag _⟩ ?_ ?_
   ·rintro i σ G hi ⟨as,pss,v2,v3,J,v5,rfl,I,v,dz,O,T,X⟩
    have aw:=O.length;intro d hd;have fu:H d=none:=I.free hb v hd;have kf:L≠d:=ze dz hd;refine⟨_,rfl,p,4,rfl,v.new hd,ξ,ξ,fun r4 H5 e1 e2 S cQ=>⟨_,_,rfl,rfl,_,rfl,ω,ω,?_⟩⟩;have kW:d≠p:=by
     obtain⟨x,y,e,_⟩:=v.new (o:=.dK []) hd;exact aF za e (by intro z;cases z)
    have s4:=Same.new (o:=.dK []) hd;refine pk (lo:=0) (n:=(1+r4).toNat) (fun j σ u=>∃seq J,σ=[some (.ref p),some (.ref L),some (.int (0+i)),some (.ref d),J,v5]/\zaq p H u/\zak u p/\u L=some (.lst (as.map V.ref))/\Tps u as pss/\u d=some (.dK (g_ seq))/\seq.length=j/\∀x∈seq,0<=x/\x<=5)
     ⟨[],_,rfl,(I.then fu).trans S,cQ,S _ _ kL (s4 _ _ dz),S.tps (v.new hd) (s4.tps O),S _ _ kW za,rfl,fun x h=>nomatch h⟩ ?_ ?_
    ·rintro j σ u hj ⟨seq,J,rfl,lP,il,M,Y,kX,ki,nh⟩
     refine⟨_,rfl,_,rfl,p,6,rfl,il,ξ,ξ,fun r H7 f1 f2 C iA=>⟨d,_,rfl,DPut.k (k:=Sum.inl r) (C _ _ kW kX) (zM (by have:=Jz seq;omega)),⟨seq++[r],_,rfl,(lP.trans C).then fu,iA.upd kW,?_,?_,by rw[za,JA],by rw[Ai,ki];rfl,?_⟩⟩⟩
     ·rw[ab kf];exact C _ _ kL M
     ·exact Tps.upd (C.tps il Y) (C _ _ kW kX) (by intro xs z;cases z)
     ·intro x hx
      rcases List.mem_append.mp hx with hx|hx
      ·exact nh x hx
      ·rw[A3] at hx;subst hx;omega
    ·rintro σ u ⟨seq,J,rfl,lP,il,M,Y,kX,ki,nh⟩
     refine⟨_,rfl,d,_,rfl,kX,fun l2 hl2=>⟨l2,dd seq,rfl,SqL.of (by rw[za,JB]),(by have:=ir seq;omega),fun D2 l hp hs a9=>⟨D2,_,rfl,.inl ⟨SqL.of za,fun t bM=>?_⟩⟩⟩⟩;have q:Same u (upd (upd (upd u l2 (.lst ((g_ seq).map fun kv=>kV kv.1))) D2 (.lst (l.map V.int))) t (.tup (l.map V.int))):=((Same.new hl2).trans (Same.new a9)).trans (Same.new bM);generalize hH7:upd (upd (upd u l2 (.lst ((g_ seq).map fun kv=>kV kv.1))) D2 (.lst (l.map V.int))) t (.tup (l.map V.int))=H7 at q;have kC:Tp H7 t l:=by rw[<-hH7];exact za
     have C:=lP.trans (zaq.of q);have iA:=il.same q;refine⟨_,rfl,_,rfl,t,L,l,as,pss,rfl,rfl,kC,SqL.of (q _ _ M),q.tps Y,_,rfl,?_⟩;have vx:l≠[]/\l.length<=4/\aT l=true/\∀x∈l,0<=x/\x<=5:=by
      refine⟨fun z=>?_,?_,JC hs (hp.nodup_iff.mpr (k_ seq)),fun x hx=>nh x ((fc seq x).mp (hp.mem_iff.mp hx))⟩
      ·have h0:dd seq=[]:=by rw[z] at hp;exact(List.nil_perm.mp hp)
       cases hq:seq with
       |nil=>rw[hq] at ki;simp at ki;omega
       |cons x r=>
        have:=(fc seq x).mpr (by rw[hq];exact As);rw[h0] at this;cases this
      ·have:=ir seq
       rw[hp.length_eq];omega
     by_cases N:l∈pss
     ·rw[decide_eq_true N]
      exact aW ⟨as,pss,_,_,_,_,rfl,C,iA,q _ _ M,q.tps Y,T,ω⟩
     ·rw[decide_eq_false N]
      refine bb ⟨_,rfl,.inl ⟨rfl,_,SqL.of (q _ _ M)⟩,_,rfl,L,_,_,rfl,rfl,q _ _ M,zM (by rw[Aa];omega),⟨as++[t],pss++[l],_,_,_,_,rfl,C.then hL0,iA.upd kL,by rw[za,Ah];rfl,Tps.upd (Tps.snoc (q.tps Y) kC) (q _ _ M) (by intro xs z;cases z),⟨?_,?_⟩,by rw[Ai];simp;omega⟩⟩
      ·rw[AU]
       refine⟨T.1,by simp,fun a ha b W e=>?_⟩;rw[A3] at W;subst W;subst e;exact N ha
      ·intro ps aN
       rcases List.mem_append.mp aN with h|h
       ·exact T.2 ps h
       ·rw[A3] at h;subst h;exact vx
   ·rintro σ G ⟨as,pss,v2,v3,J,v5,rfl,I,v,dz,O,T,X⟩
    refine⟨_,rfl,_,rfl,p,L,as,pss,rfl,v,dz,O,ω,fun ps hp=>by have:=(T.2 ps hp).2.1;omega,fun D' bs aB first au H5 S cQ eK cz sM c1 c2 c3 c4 c=>?_⟩;exact k D' bs aB H5 (I.trans S) cQ (I.free hb v eK) cz sM ⟨pss,first,au,.inr ⟨ω,T⟩,c1,c2,c3,c4,c⟩
end
end K50
end
section
namespace K1
open PySem L2 STb
def Dd:∀a b:List Int,HT.lexLt a b=true->HT.lexLt b a=false
 |[],[],h=>rfl
 |[],_::_,h=>rfl
 |_::_,[],h=>by rw[HT.BI] at h;exact absurd h At
 |x::xs,y::ys,h=>by
  rw[HT.zz] at h ⊢
  by_cases e:x=y
  ·rw[if_pos e] at h;rw[if_pos e.symm];exact Dd xs ys h
  ·rw[if_neg e] at h;rw[if_neg (fun z=>e z.symm)]
   have:=of_decide_eq_true h;exact decide_eq_false ω
def qE:∀a b:List Int,HT.lexLt a b=false->HT.lexLt b a=false->a=b
 |[],[],_,_=>rfl
 |[],_::_,h,_=>by rw[HT.zW] at h;exact absurd h ξ
 |_::_,[],_,h=>by rw[HT.zW] at h;exact absurd h ξ
 |x::xs,y::ys,h,h'=>by
  rw[HT.zz] at h h'
  by_cases e:x=y
  ·rw[if_pos e] at h;rw[if_pos e.symm] at h'
   rw[e,qE xs ys h h']
  ·rw[if_neg e] at h;rw[if_neg (fun z=>e z.symm)] at h'
   have:=of_decide_eq_false h;have:=of_decide_eq_false h';omega
def k4:∀a b c:List Int,HT.lexLt b a=false->HT.lexLt c b=false->HT.lexLt c a=false
 |[],b,c,_,_=>by cases c with
  |nil=>rfl
  |cons _ _=>rfl
 |_::_,[],c,h,_=>by rw[HT.zW] at h;exact absurd h ξ
 |_::_,_::_,[],_,h=>by rw[HT.zW] at h;exact absurd h ξ
 |x::xs,y::ys,z::zs,h,h'=>by
  rw[HT.zz] at h h' ⊢
  by_cases e:y=x
  ·rw[if_pos e] at h
   by_cases e2:z=y
   ·rw[if_pos e2] at h';rw[if_pos (e2.trans e)];exact k4 xs ys zs h h'
   ·rw[if_neg e2] at h';rw[if_neg ω]
    have:=of_decide_eq_false h';exact decide_eq_false ω
  ·rw[if_neg e] at h
   have h1:=of_decide_eq_false h
   by_cases e2:z=y
   ·rw[if_neg ω]
    exact decide_eq_false ω
   ·rw[if_neg e2] at h'
    have h2:=of_decide_eq_false h';rw[if_neg ω];exact decide_eq_false ω
def key(p:List Int):List Int:=(p.length:Int)::p
def kle(a b:List Int):Bool:=!HT.lexLt (key b) (key a)
def jQ{a b:List Int}:kle a b=true↔HT.lexLt (key b) (key a)=false:=by unfold kle;simp
def canon(pss:Ξ):Ξ:=(dd (pss.flatMap parts)).mergeSort kle
def ll(pss:Ξ):(canon pss).Perm (dd (pss.flatMap parts)):=List.mergeSort_perm _ _
def zQ(pss:Ξ):(canon pss).Pairwise (fun a b=>kle a b=true):=by
 refine List.pairwise_mergeSort (fun a b c h1 h2=>?_) (fun a b=>?_) _
 ·rw[jQ] at h1 h2 ⊢;exact k4 _ _ _ h1 h2
 ·rw[Bool.or_eq_true,jQ,jQ]
  cases h:HT.lexLt (key b) (key a) with
  |false=>exact .inl rfl
  |true=>exact .inr (Dd _ _ h)
def zB{pss:Ξ}{x:List Int}:x∈canon pss↔x∈pss.flatMap parts:=by rw[(ll pss).mem_iff,fc]
def zZ(pss:Ξ):(canon pss).Nodup:=(ll pss).nodup_iff.mpr (k_ _)
def zY(pss:Ξ):(canon pss).length=(dd (pss.flatMap parts)).length:=(ll pss).length_eq
def qF{l m:Ξ}(hp:l.Perm m)(h1:l.Pairwise (fun a b=>kle a b=true))(h2:m.Pairwise (fun a b=>kle a b=true)):l=m:=by
 refine List.Perm.eq_of_pairwise (fun a b _ _ g1 g2=>?_) h1 h2 hp;rw[jQ] at g1 g2;have:=qE _ _ g2 g1;unfold key at this;exact(List.cons.inj this).2
def canon_of{pss l:Ξ}(hp:l.Perm (dd (pss.flatMap parts)))(hs:l.Pairwise (fun a b=>HT.lexLt ((b.length:Int)::b) ((a.length:Int)::a)=false)):l=canon pss:=
 qF (hp.trans (ll pss).symm) (hs.imp fun h=>jQ.mpr h) (zQ pss)
def JF{l m:Ξ}(h:∀x,x∈l↔x∈m):(dd l).Perm (dd m):=(List.perm_ext_iff_of_nodup (k_ l) (k_ m)).mpr fun x=>by rw[fc,fc];exact h x
def JG{pss a:Ξ}(h:∀x,x∈pss.flatMap parts↔x∈a.flatMap parts):canon pss=canon a:=
 qF ((ll pss).trans ((JF h).trans (ll a).symm)) (zQ pss) (zQ a)
def qT:∀(n:Nat)(p q:List Int),p.length=n->(q∈subs p↔q.Sublist p)
 |0,p,q,h=>by
  obtain rfl:=AH h;show q∈[[]]↔_;simp
 |n+1,p,q,h=>by
  obtain⟨r,x,rfl⟩:∃r x,p=r++[x]:=by
   rcases List.eq_nil_or_concat p with e|⟨r,x,e⟩
   ·rw[e] at h;cases h
   ·exact⟨r,x,by rw[e,List.concat_eq_append]⟩
  have hr:r.length=n:=by simpa using h
  rw[xI,List.mem_append,qT n r q hr,List.mem_map,List.sublist_append_iff];constructor
  ·rintro(h1|⟨y,hy,rfl⟩)
   ·exact⟨q,[],by simp,h1,List.nil_sublist _⟩
   ·exact⟨y,[x],rfl,(qT n r y hr).mp hy,List.Sublist.refl _⟩
  ·rintro⟨a,d,rfl,b,c⟩
   cases c with
   |cons _ h=>
    obtain rfl:=List.sublist_nil.mp h;exact .inl (by simpa using b)
   |cons_cons _ h=>
    obtain rfl:=List.sublist_nil.mp h;exact .inr ⟨a,(qT n r a hr).mpr b,rfl⟩
def zv{p q:List Int}:q∈parts p↔q≠[]/\q.Sublist p:=by
 obtain⟨t,e,a⟩:=xJ p;have hs:=qT p.length p q rfl;rw[e] at hs;unfold parts;rw[e];show q∈t↔_;constructor
 ·intro h
  exact⟨a q h,hs.mp (Aq _ h)⟩
 ·rintro⟨h1,h2⟩
  rcases List.mem_cons.mp (hs.mpr h2) with h|h
  ·exact absurd h h1
  ·exact h
def xY{p q r:List Int}(h1:q∈parts p)(h2:r∈parts q):r∈parts p:=by
 rw[zv] at h1 h2 ⊢;exact⟨h2.1,h2.2.trans h1.2⟩
def nQ:∀p:List Int,aT p=true↔p.Pairwise (·<·)
 |[]=>by simp[aT]
 |[a]=>by simp[aT]
 |a::b::r=>by
  have c:=nQ (b::r);rw[show aT (a::b::r)=(decide (a<b)&&aT (b::r)) from rfl,AI,decide_eq_true_eq,c,List.pairwise_cons (a:=a)];constructor
  ·rintro⟨h1,h2⟩
   refine⟨fun x hx=>?_,h2⟩;rcases List.mem_cons.mp hx with rfl|hx
   ·exact h1
   ·have:=(List.pairwise_cons.mp h2).1 x hx
    omega
  ·rintro⟨h1,h2⟩
   exact⟨h1 b As,h2⟩
def zI{p:List Int}:zS p=true↔p≠[]/\p.length<=5/\(∀x∈p,0<=x/\x<=99)/\p.Pairwise (·<·):=by
 unfold zS;simp only[AI,decide_eq_true_eq,List.all_eq_true,nQ];constructor
 ·rintro⟨⟨⟨h1,h2⟩,h3⟩,a⟩
  exact⟨fun z=>by rw[z] at h1;simp at h1,h2,h3,a⟩
 ·rintro⟨h1,h2,h3,a⟩
  refine⟨⟨⟨?_,h2⟩,h3⟩,a⟩;cases p with
  |nil=>exact absurd rfl h1
  |cons _ _=>simp
def nU{p q:List Int}(h:zS p=true)(hq:q∈parts p):zS q=true:=by
 rw[zI] at h ⊢;rw[zv] at hq;exact⟨hq.1,AD hq.2.length_le h.2.1,fun x hx=>h.2.2.1 x (hq.2.subset hx),h.2.2.2.sublist hq.2⟩
def JH{pss:Ξ}(hn:pss.Nodup)(hp:∀p∈pss,zS p=true):CZ pss pss.length:=by
 intro i p hi e;refine⟨fun hm=>?_,hp p (Al e)⟩;obtain⟨j,b⟩:=List.mem_iff_getElem?.mp hm;obtain⟨c,a⟩:=List.getElem?_eq_some_iff.mp b;rw[Ay] at c;obtain⟨d,f⟩:=List.getElem?_eq_some_iff.mp e;have:=List.pairwise_iff_getElem.mp hn j i ω d ω;rw[List.getElem_take] at a;exact this (a.trans f.symm)
def De{pss:Ξ}(a:pss.length<=20)(hn:pss.Nodup)(hp:∀p∈pss,zS p=true)(h:(dd (pss.flatMap parts)).length<=200):bO pss=true:=by
 rw[IX pss a (JH hn hp),decide_eq_true h]
def lm{pss:Ξ}(h:bO pss=true):pss.length<=20/\(∀p∈pss,zS p=true)/\(∀p∈pss,p.length<=5)/\(dd (pss.flatMap parts)).length<=200:=by
 unfold bO at h;simp only[AI,decide_eq_true_eq,List.all_eq_true] at h;obtain⟨⟨⟨h1,h2⟩,h3⟩,a⟩:=h;have h5:∀p∈pss,zS p=true:=fun p hp=>by rw[<-CY];exact h2 p hp
 exact⟨h1,h5,fun p hp=>(zI.mp (h5 p hp)).2.1,a⟩
def over(o p:List Int):Bool:=decide (p.length<o.length)&&p.all fun x=>decide (x∈o)
def iW(kn:Ξ)(p:List Int):Bool:=decide ((kn.filter fun o=>over o p).length=0)
def tops(kn:Ξ):Ξ:=kn.filter (iW kn)
def Dg{pss:Ξ}{x:List Int}(h:x∈tops (canon pss)):x∈pss:=by
 unfold tops at h;obtain⟨h1,h2⟩:=List.mem_filter.mp h;rw[zB] at h1;obtain⟨p,hp,hx⟩:=List.mem_flatMap.mp h1;rw[zv] at hx;have b:p≠[]:=fun z=>by rw[z] at hx;exact hx.1 (List.sublist_nil.mp hx.2)
 have a:p∈canon pss:=zB.mpr (List.mem_flatMap.mpr ⟨p,hp,zv.mpr ⟨b,List.Sublist.refl _⟩⟩)
 by_cases hl:x.length<p.length
 ·exfalso
  unfold iW at h2;have c:=of_decide_eq_true h2;have:p∈(canon pss).filter fun o=>over o x:=List.mem_filter.mpr ⟨a,by unfold over;rw[decide_eq_true hl,Bool.true_and,List.all_eq_true];exact fun y hy=>decide_eq_true (hx.2.subset hy)⟩;rw[AH c] at this;cases this
 ·have:x=p:=hx.2.eq_of_length (Nat.le_antisymm hx.2.length_le ω)
  rw[this];exact hp
def JI(pss:Ξ):(tops (canon pss)).Nodup:=(zZ pss).filter _
def JJ(pss:Ξ):(tops (canon pss)).length<=pss.length:=(JI pss).length_le_of_subset fun x h=>Dg h
def Oth(pss other:Ξ):Prop:=other.Nodup/\∀e∈other,e∈canon pss\/(canon pss=[]/\e=[5])
end K1
end
section
namespace K50
open K1
open PySem L2 STb
def JK(b:Ξ):Prop:=b.Nodup/\b.length<=17/\(∀ps∈b,ps≠[]/\ps.length<=5/\aT ps=true/\∀x∈ps,0<=x/\x<=7)/\(b.flatMap parts).length<=200
def JL:∀n,n<20->(known n).Nodup/\(known n).length<=17/\(∀ps∈known n,ps≠[]/\ps.length<=5/\aT ps=true/\∀x∈ps,0<=x/\x<=7)/\((known n).flatMap parts).length<=200:=δ
def Dh{m:Nat}:∀{b:Ξ},(∀ps∈b,(parts ps).length<=m)->(b.flatMap parts).length<=m*b.length
 |[],_=>by simp
 |p::r,h=>by
  have h1:=h p As;have h2:=Dh (b:=r) fun q hq=>h q (Aq _ hq);rw[Bc,Ai,An,Nat.mul_succ];omega
def JM{b:Ξ}(h:Base b):JK b:=by
 rcases h with ⟨n,hn,rfl⟩|⟨h5,hs⟩
 ·exact JL n hn
 ·refine⟨hs.1,ω,fun ps hp=>?_,?_⟩
  ·obtain⟨h1,h2,h3,a⟩:=hs.2 ps hp
   exact⟨h1,ω,h3,fun x hx=>by have:=a x hx;omega⟩
  ·have:=Dh (m:=15) (b:=b) fun ps hp=>by
    rw[la];have h2:=(hs.2 ps hp).2.1;have:2 ^ ps.length<=2 ^ 4:=Nat.pow_le_pow_right ξ h2;omega
   omega
def qX{first a:Int}(b:1<=a){p q:List Int}(h:ren first a p=ren first a q):p=q:=by
 unfold ren at h;refine(List.map_inj_right (f:=fun x=>first+a*x) (fun x y e=>?_)).mp h;have:a*x=a*y:=ω
 exact Int.eq_of_mul_eq_mul_left ω this
def JN{first f:Int}(i:0<=first)(h1:first<12)(j:1<=f)(l:f<=3){p:List Int}(h:p≠[]/\p.length<=5/\aT p=true/\∀x∈p,0<=x/\x<=7):zS (ren first f p)=true:=by
 obtain⟨a,b,c,d⟩:=h;rw[zI];unfold ren;refine⟨fun z=>a (List.map_eq_nil_iff.mp z),by rw[Aa];exact b,fun y hy=>?_,?_⟩
 ·obtain⟨x,hx,rfl⟩:=List.mem_map.mp hy
  have:=d x hx;have g:f=1\/f=2\/f=3:=ω
  rcases g with rfl|rfl|rfl<;>omega
 ·rw[nQ] at c
  rw[A2];refine c.imp fun{x y} e=>?_;have:f*x<f*y:=Int.mul_lt_mul_of_pos_left e ω;omega
def qZ{q:Ξ}(h:Drawn q):bO q=true/\q.Nodup/\q.length<=17:=by
 obtain⟨b,first,c,hb,d,h1,a,f,hp⟩:=h;obtain⟨n1,n2,g,i⟩:=JM hb;have hl:q.length<=17:=by rw[hp.length_eq,Aa];exact n2
 have hn:q.Nodup:=by
  rw[hp.nodup_iff];unfold List.Nodup at n1 ⊢;rw[A2];exact n1.imp fun{x y} e z=>e (qX a z)
 refine⟨De ω hn (fun p hm=>?_) ?_,hn,hl⟩
 ·obtain⟨r,hr,rfl⟩:=List.mem_map.mp (hp.mem_iff.mp hm)
  exact JN d h1 a f (g r hr)
 ·refine AD (ir _) ?_
  rw[(hp.flatMap_right parts).length_eq];have:∀b:Ξ,((b.map (ren first c)).flatMap parts).length=(b.flatMap parts).length:=by
   intro b
   induction b with
   |nil=>rfl
   |cons p r ih=>
    rw[Av,Bc,Bc,Ai,Ai,ih,la,la];unfold ren;rw[Aa]
  rw[this];exact i
end K50
end
section
namespace K1
open PySem L2 STb
def rims(q:List Int):Ξ:=if q.length=1 then [] else(AB q.length).map fun k=>q.take k++q.drop (k+1)
def jS(q:List Int):(rims q).length<=q.length:=by
 unfold rims;split
 ·exact AL _
 ·simp
def hE{p q:List Int}:p∈rims q↔q.length≠1/\∃k,k<q.length/\p=q.take k++q.drop (k+1):=by
 unfold rims;split
 next h=>simp[h]
 next h=>
  rw[List.mem_map];constructor
  ·rintro⟨k,hk,rfl⟩
   exact⟨h,k,List.mem_range.mp hk,rfl⟩
  ·rintro⟨_,k,hk,rfl⟩
   exact⟨k,List.mem_range.mpr hk,rfl⟩
def lq:∀(o p:List Int),o.Pairwise (·<·)->p.Pairwise (·<·)->(∀x∈p,x∈o)->p.Sublist o
 |[],p,_,_,h=>by
  cases p with
  |nil=>exact List.Sublist.slnil
  |cons a r=>exact absurd (h a As) (by simp)
 |b::o,p,ho,hp,h=>by
  obtain⟨f,c⟩:=List.pairwise_cons.mp ho;cases p with
  |nil=>exact List.nil_sublist _
  |cons a r=>
   obtain⟨d,g⟩:=List.pairwise_cons.mp hp
   by_cases e:a=b
   ·subst e
    refine(lq o r c g fun x hx=>?_).cons_cons a;rcases List.mem_cons.mp (h x (Aq _ hx)) with rfl|q
    ·have:=d x hx;omega
    ·exact q
   ·have i:a∈o:=by
     rcases List.mem_cons.mp (h a As) with q|q
     ·exact absurd q e
     ·exact q
    have j:=f a i;refine(lq o (a::r) c hp fun x hx=>?_).cons b;rcases List.mem_cons.mp (h x hx) with q|q
    ·exfalso
     rcases List.mem_cons.mp hx with z|z
     ·omega
     ·have:=d x z;omega
    ·exact q
def between{p o:List Int}(h:p.Sublist o):p.length<o.length->∃(r:List Int)(k:Nat),r.Sublist o/\k<r.length/\r.length=p.length+1/\p=r.take k++r.drop (k+1):=by
 induction h with
 |slnil=>intro h;simp at h
 |@cons p o a s ih=>
  intro _;exact⟨a::p,0,s.cons_cons a,by simp,by simp,by simp⟩
 |@cons_cons p o a s ih=>
  intro hl;obtain⟨r,k,h1,h2,h3,b⟩:=ih (by simpa using hl);exact⟨a::r,k+1,h1.cons_cons a,by simpa using h2,by simp[h3],by rw[List.take_succ_cons,List.drop_succ_cons,List.cons_append,<-b]⟩
def Di{p q:List Int}{k:Nat}(hk:k<q.length)(h:p=q.take k++q.drop (k+1)):p.Sublist q/\p.length<q.length:=by
 subst h;refine⟨?_,?_⟩
 ·have h1:(q.take k++q.drop (k+1)).Sublist (q.take k++q.drop k):=(List.Sublist.refl _).append (by
   rw[show q.drop (k+1)=(q.drop k).drop 1 by rw[List.drop_drop]];exact List.drop_sublist _ _)
  rwa [List.take_append_drop] at h1
 ·rw[Ai,Ay,List.length_drop]
  omega
def JO{pss:Ξ}(hp:∀p∈pss,zS p=true){p:List Int}(h:p∈canon pss):iW (canon pss) p=!decide (p∈(canon pss).flatMap rims):=by
 have a:∀q∈canon pss,zS q=true:=fun q hq=>by
  obtain⟨r,hr,hx⟩:=List.mem_flatMap.mp (zB.mp hq);exact nU (hp r hr) hx
 rw[Bool.eq_iff_iff];unfold iW;rw[decide_eq_true_eq,Bool.not_eq_true',decide_eq_false_iff_not,List.length_eq_zero_iff,List.filter_eq_nil_iff];constructor
 ·intro d hm
  obtain⟨q,hq,f⟩:=List.mem_flatMap.mp hm;obtain⟨_,k,hk,e⟩:=hE.mp f;obtain⟨s,l⟩:=Di hk e;refine d q hq ?_;unfold over;rw[decide_eq_true l,Bool.true_and,List.all_eq_true];exact fun x hx=>decide_eq_true (s.subset hx)
 ·intro hn o c b
  unfold over at b;rw[AI,decide_eq_true_eq,List.all_eq_true] at b;obtain⟨hl,hm⟩:=b;have hs:p.Sublist o:=lq o p (zI.mp (a o c)).2.2.2 (zI.mp (a p h)).2.2.2 fun x hx=>of_decide_eq_true (hm x hx);obtain⟨r,k,h1,h2,h3,g⟩:=between hs hl;have i:p≠[]:=(zI.mp (a p h)).1;have j:1<=p.length:=by
   cases p with
   |nil=>exact absurd rfl i
   |cons _ _=>simp
  have hr:r∈canon pss:=by
   obtain⟨q,hq,hx⟩:=List.mem_flatMap.mp (zB.mp c);refine zB.mpr (List.mem_flatMap.mpr ⟨q,hq,xY hx (zv.mpr ⟨fun z=>?_,h1⟩)⟩);rw[z] at h2;simp at h2
  exact hn (List.mem_flatMap.mpr ⟨r,hr,hE.mpr ⟨ω,k,h2,g⟩⟩)
def Dj{pss:Ξ}(hp:∀p∈pss,zS p=true):(canon pss).filter (fun p=>!decide (p∈(canon pss).flatMap rims))=tops (canon pss):=by
 unfold tops;exact List.filter_congr fun p h=>(JO hp h).symm
def JP(pss:Ξ):(tops (canon pss)).Pairwise (fun a b=>kle a b=true):=(zQ pss).sublist List.filter_sublist
end K1
end
section
namespace K50
open K1
open PySem L2 STb
def JQ:∀n,n<20->(dd ((known n).flatMap parts)).length<=56:=δ
def six:Ξ:=(parts [0,1,2,3,4,5]).filter fun q=>decide (q.length<=4)
def JR:six.length=56:=δ
def JS{b:Ξ}(h:Base b):(dd (b.flatMap parts)).length<=56:=by
 rcases h with ⟨n,hn,rfl⟩|⟨h5,hs⟩
 ·exact JQ n hn
 ·rw[<-JR]
  refine(k_ _).length_le_of_subset fun x hx=>?_;rw[fc,List.mem_flatMap] at hx;obtain⟨p,hp,hx⟩:=hx;obtain⟨_,a,hr,hb⟩:=hs.2 p hp;rw[zv] at hx;have hl:=hx.2.length_le;unfold six;rw[List.mem_filter,zv];refine⟨⟨hx.1,hx.2.trans (lq _ _ ξ ((nQ p).mp hr) fun y hy=>?_)⟩,decide_eq_true ω⟩;have:=hb y hy;have:y=0\/y=1\/y=2\/y=3\/y=4\/y=5:=ω
  rcases this with rfl|rfl|rfl|rfl|rfl|rfl<;>decide
def xZ{q:Ξ}(h:Drawn q):(dd (q.flatMap parts)).length<=56:=by
 obtain⟨b,first,d,hb,_,_,_,_,hp⟩:=h;refine AD ?_ (JS hb);have e:((dd (b.flatMap parts)).map (ren first d)).length=(dd (b.flatMap parts)).length:=Aa _;rw[<-e];refine(k_ _).length_le_of_subset fun x hx=>?_;rw[fc,List.mem_flatMap] at hx;obtain⟨p,hm,hx⟩:=hx;obtain⟨r,hr,rfl⟩:=List.mem_map.mp (hp.mem_iff.mp hm);rw[zv] at hx;obtain⟨a,c⟩:=hx;unfold ren at c;obtain⟨y,hy,rfl⟩:=List.sublist_map_iff.mp c;refine List.mem_map.mpr ⟨y,?_,rfl⟩;rw[fc,List.mem_flatMap];exact⟨r,hr,zv.mpr ⟨fun z=>a (by rw[z];rfl),hy⟩⟩
def cv(pss:Ξ):Prop:=bO pss=true/\(canon pss).length<64
abbrev rf:Stmt:=top 19
abbrev iY:Stmt:=top 20
def x0{H:Hp}:∀{a:List (List Int×Addr)},(∀q∈a,Tp H q.2 q.1)->Tps H (a.map (·.2)) (a.map (·.1))
 |[],_=>.nil
 |q::r,h=>.cons (h q As) (x0 fun x hx=>h x (Aq _ hx))
def Dl{H H2:Hp}{pss:Ξ}{D:Addr}{a:List (List Int×Addr)}(t:Told H H2 pss D a):∃bs,Same H H2/\H D=none/\H2 D=some (.lst (bs.map V.ref))/\Tps H2 bs (canon pss):=by
 obtain⟨sm,b,c,hq,hp,hs⟩:=t;have e:a.map (·.1)=canon pss:=canon_of hp (List.pairwise_map.mpr hs);refine⟨a.map (·.2),sm,b,by rw[c,Ap];rfl,?_⟩;rw[<-e];exact x0 hq
section
variable{P:Program}{w:World}{K:Af}{mg:Str->Option Value}{base:Heap}
def lr(K:Af):Sp:=fun vs H Q _=>∃l as pss,vs=[.ref l]/\SqL K H l (as.map V.ref)/\Tps H as pss/\cv pss/\∀D H2 bs,Same H H2->H D=none->H2 D=some (.lst (bs.map V.ref))->Tps H2 bs (canon pss)->Q (.ref D) H2
def JT:zq ["web"] ["web"] (zh iY):=⟨rfl,rfl,rfl,δ,rfl,δ,δ⟩
def JU:zq ["web"] ["web"] (zh rf):=⟨rfl,rfl,rfl,δ,rfl,δ,δ⟩
def Dm(K:Af):Sp:=fun vs H Q _=>∃l as pss,vs=[.ref l]/\SqL K H l (as.map V.ref)/\Tps H as pss/\cv pss/\∀H2,Same H H2->Q .non H2
def JV{f a:Addr}{fd b:FuncData}(F:Fun K "must_be_web" "must_be_web" rf f fd)(Fw:Fun K "is_web" "is_web" qp a b)(e:Binds K b ["web"] [])(g:mg "is_web"=some (.ref a))(i:FnOk P w K mg base aJ 6 a b ["web"] (C8 K)):FnOk P w K mg base aJ 7 f fd ["web"] (Dm K):=by
 refine F.ok JU (fun vs H Q E h=>?_) (fun cdv A outer s H vs Q E hr h=>?_)
 ·obtain⟨l,as,pss,rfl,_⟩:=h;rfl
 ·obtain⟨l,as,pss,rfl,hl,d,hw,k⟩:=h
  refine⟨_,zg (cY (tQ (Bh (zn i hr rfl g Fw.kp e .nil al (zb (pv 0) zc)))) t8 zE),?_⟩;refine⟨_,rfl,l,as,pss,rfl,hl,d,(fun _=>by rw[<-zY];exact hw.2),fun H1 c=>⟨_,rfl,?_⟩⟩;rw[hw.1];exact aW (k H1 c)
def JW{f c fa:Addr}{fd d e:FuncData}(F:Fun K "pieces" "pieces" iY f fd)(Fw:Fun K "must_be_web" "must_be_web" rf c d)(q:Binds K d ["web"] [])(r:mg "must_be_web"=some (.ref c))(x:FnOk P w K mg base aJ 7 c d ["web"] (Dm K))(Fa:Fun K "all_parts" "all_parts" sAll fa e)(u:Binds K e ["some"] [])(v:mg "all_parts"=some (.ref fa))(y:FnOk P w K mg base aJ 5 fa e ["some"] (nD K)):FnOk P w K mg base aJ 8 f fd ["web"] (lr K):=by
 refine F.ok JT (fun vs H Q E h=>?_) (fun cdv A outer s H vs Q E hr h=>?_)
 ·obtain⟨l,as,pss,rfl,_⟩:=h;rfl
 ·obtain⟨l,as,pss,rfl,hl,g,hw,k⟩:=h
  have b:Room 5 _:=hr.mono ξ;refine⟨_,zd (gN (zn x hr rfl r Fw.kp q .nil al (zb (pv 0) zc)))
   (zg (zu (zn y b rfl v Fa.kp u .nil al (zb (pv 0) zc)))),?_⟩
  obtain⟨i,_,h5,_⟩:=lm hw.1;refine⟨_,rfl,l,as,pss,rfl,hl,g,hw,fun H1 a=>?_⟩;refine⟨_,rfl,l,as,pss,rfl,a.seq hl,a.tps g,h5,i,(by rw[<-zY];exact hw.2),fun D H2 z t=>?_⟩;obtain⟨bs,j,o,p,hb⟩:=Dl t;exact k D H2 bs (a.trans j) (a.free o) p hb
end
abbrev lv:Stmt:=top 10
abbrev lw:Stmt:=top 14
def nZ(xs:List V)(i:Nat)(h:i<=xs.length):ca xs none (some (i:Int))=xs.take i:=by
 unfold ca;rw[HT.pD,HT.ms,Nat.min_eq_left h,List.drop_zero,Nat.sub_zero]
def n4(xs:List V)(i:Nat)(h:i<=xs.length):ca xs (some (i:Int)) none=xs.drop i:=by
 unfold ca;rw[HT.pD,HT.ms,Nat.min_eq_left h];exact Ax (by rw[List.length_drop];exact Ag _)
abbrev n5:TE:=cr wQ (u9 jG (am 1) u4 (u8 (am 0))) (u9 jG (am 1) (u8 (cr (fX fun i j=>.int (i+j)) (am 0) (tC (.int 1)))) u4)
section
variable{P:Program}{w:World}{K:Af}{mg:Str->Option Value}{base:Heap}
def JX{H2:Hp}{a D:Addr}{ps:List Int}{Q:VK}(p:Tp H2 a ps)(hz:ps.length<=5)(q:H2 D=none)(k:∀(b:Hp)(bs:List Addr),Same H2 b->b D=some (.lst (bs.map V.ref))->Tps b bs ((AB ps.length).map fun k=>ps.take k++ps.drop (k+1))->Q (.ref D) b):cg (eN 0 ps.length) (cn 0) ce n5 [none,some (.ref a)] H2 D Q:=by
 refine pU (fun j σ ys b=>∃(v:Option V)(bs:List Addr),σ=[v,some (.ref a)]/\Same H2 b/\b D=some (.lst ys)/\ys=bs.map V.ref/\Tps b bs (((AB ps.length).map fun k=>ps.take k++ps.drop (k+1)).take j)) ?_ ?_ ?_
 ·exact⟨none,[],rfl,Same.new q,za,rfl,.nil⟩
 ·rintro j σ ys b o hy ⟨v,bs,rfl,sm,c,rfl,hb⟩
  have e:((AB ps.length).map fun k=>ps.take k++ps.drop (k+1))[j]?=some (ps.take j++ps.drop (j+1)):=by rw[Ak,List.getElem?_range o];rfl
  refine cR ?_;refine⟨_,rfl,_,rfl,_,rfl,a,_,rfl,sm.tp p,fun r w f g=>⟨_,rfl,_,rfl,_,_,rfl,rfl,_,rfl,a,_,rfl,f _ _ (sm.tp p),fun p2 x h i=>?_⟩⟩;rw[show(0:Int)+((j:Nat):Int)=((j:Nat):Int) from ω,nZ _ _ (by rw[Aa];omega),<-List.map_take] at g;rw[show(0:Int)+((j:Nat):Int)+1=((j+1:Nat):Int) from ω,n4 _ _ (by rw[Aa];omega),<-List.map_drop] at i;refine⟨r,p2,_,_,rfl,rfl,h _ _ g,i,zf (by simp;omega),fun s y u l=>?_⟩;rw[<-Ah] at l;have d:=(f.trans h).trans u;refine bx (zf ω) o hy (d _ _ c) ⟨_,bs++[s],rfl,(sm.trans d).then q,za,by rw[Ah];rfl,?_⟩;rw[AF e];exact Tps.upd (Tps.snoc (d.tps hb) l) (d _ _ c) (by intro xs z;cases z)
 ·rintro σ ys b ⟨v,bs,rfl,sm,c,rfl,hb⟩
  rw[Ax (by simp)] at hb;exact k b bs sm c hb
def x4:Sp:=fun vs H Q _=>∃a ps,vs=[.ref a]/\Tp H a ps/\ps.length<=5/\∀D H2(bs:List Addr),Same H H2->H D=none->H2 D=some (.lst (bs.map V.ref))->Tps H2 bs (rims ps)->Q (.ref D) H2
def JY:zq ["piece"] ["piece"] (zh lv):=⟨rfl,rfl,rfl,δ,rfl,δ,δ⟩
def Dn{f:Addr}{fd:FuncData}(F:Fun K "rims_of" "rims_of" lv f fd)(B:Bt mg):FnOk P w K mg base aJ 1 f fd ["piece"] x4:=by
 refine F.ok JY (fun vs H Q E h=>?_) (fun cdv A outer s H vs Q E hr h=>?_)
 ·obtain⟨a,ps,rfl,_⟩:=h;rfl
 ·obtain⟨a,ps,rfl,d,h5,k⟩:=h
  refine⟨_,zd (cY (zt gU (zl zj rfl B.len cH (zb (pv 0) zc)) zi (ao _)) (zg (zu (z0 zc))) zE)
   (zg (zu (zw ["piece"] ["k","piece"] [none,some 0] (l' rfl B.range (zb (zl zj rfl B.len cH (zb (pv 0) zc)) zc)) (fun e C s₀ H₀ ex=>zk (i:=0) (cF ["k","piece"]) rfl (Or.inl rfl)) (fun e C s₀ H₀ ex=>eX)
    (fun e C s₀ H₀ ex=>zx pX (kJ qm (pv 1) ia (ic (pv 0))) (kJ qm (pv 1) (ic (zx eR (pv 0) zi)) ia)) (hfr:=ci (zh lv) δ) (te:=n5)))),?_⟩
  refine⟨_,rfl,a,_,rfl,.inr (SqT.of d),rfl,_,rfl,?_⟩;rw[Aa]
  by_cases h1:ps.length=1
  ·rw[show decide (V.int (ps.length:Int)=V.int 1)=true from decide_eq_true (by rw[h1];rfl)]
   refine bb ⟨zf (by simp),fun D b=>k D _ [] (Same.new b) b za ?_⟩;unfold rims;rw[if_pos h1];exact .nil
  ·rw[show decide (V.int (ps.length:Int)=V.int 1)=false from decide_eq_false fun z=>h1 (by injection z with z;omega)]
   refine aW ⟨_,rfl,a,_,rfl,.inr (SqT.of d),_,rfl,by rw[Aa];omega,by rw[Aa];omega,fun D b=>?_⟩;rw[Aa];refine zF (JX d h5 b fun g bs sm c hb=>k D g bs sm b c ?_);unfold rims;rw[if_neg h1];exact hb
def JZ(seq:Ξ)(p:List Int):(aU (dB seq) (p.map Sum.inl)).isSome=decide (p∈seq):=by
 rw[<-kO,Bool.eq_iff_iff,List.any_eq_true,decide_eq_true_eq];unfold dB;constructor
 ·rintro⟨kv,hm,e⟩
  obtain⟨q,hq,rfl⟩:=List.mem_map.mp hm;have a:=of_decide_eq_true e;have:q=p:=(List.map_inj_right (f:=(Sum.inl:Int->Key)) (fun x y h=>Sum.inl.inj h)).mp a;rw[<-this];exact(fc seq q).mp hq
 ·intro h
  exact⟨_,List.mem_map.mpr ⟨p,(fc seq p).mpr h,rfl⟩,by simp⟩
def J0{H2:Hp}{L d D:Addr}{as:List Addr}{kn seq:Ξ}{Q:VK}(hl:SqL K H2 L (as.map V.ref))(f:Tps H2 as kn)(hd:H2 d=some (.dT (dB seq)))(hz:kn.length<=1000)(g:H2 D=none)(k:∀(b:Hp)(bs:List Addr),Same H2 b->b D=some (.lst (bs.map V.ref))->Tps b bs (kn.filter fun p=>!decide (p∈seq))->Q (.ref D) b):cg (dn K L) (cn 0) (tB (vu (am 0) (am 1))) (am 0) [none,some (.ref d)] H2 D Q:=by
 have i:=f.length;refine zH (xs:=as.map V.ref) (fun j σ ys b=>∃(v:Option V)(bs:List Addr),σ=[v,some (.ref d)]/\Same H2 b/\b D=some (.lst ys)/\ys=bs.map V.ref/\Tps b bs ((kn.take j).filter fun p=>!decide (p∈seq))) ?_ ?_ ?_ ?_
 ·exact⟨none,[],rfl,Same.new g,za,rfl,.nil⟩
 ·rintro j σ ys b ⟨v,bs,rfl,sm,a,rfl,_⟩
  exact sm.seq hl
 ·rintro j σ ys b x hx e hy ⟨v,bs,rfl,sm,a,rfl,hb⟩
  obtain⟨o,h,rfl⟩:=zD hx;obtain⟨p,ep,hp⟩:=f.get h;have hn:(as.map V.ref).length<=sizeLine:=by rw[Aa];exact zf ω
  refine⟨_,rfl,_,rfl,d,_,rfl,DGet.t (k:=p.map Sum.inl) (sm _ _ hd) (by rw[Ap];exact sm.tp hp),_,rfl,?_⟩;rw[JZ]
  by_cases c:p∈seq
  ·rw[decide_eq_true c]
   refine aW (b7 e hy ⟨_,bs,rfl,sm,a,rfl,?_⟩);rw[AF ep,AK,AT (by rw[decide_eq_true c];decide),List.filter_nil,AN];exact hb
  ·rw[decide_eq_false c]
   refine bb ⟨_,rfl,bx hn e hy a ⟨_,bs++[o],rfl,sm.then g,za,by rw[Ah];rfl,?_⟩⟩;rw[AF ep,AK,List.filter_cons_of_pos (by rw[decide_eq_false c];rfl),List.filter_nil];exact Tps.upd (Tps.snoc hb (sm.tp hp)) a (by intro xs z;cases z)
 ·rintro σ ys b ⟨v,bs,rfl,sm,a,rfl,hb⟩
  rw[Aa,i,Ax (Ag _)] at hb;exact k b bs sm a hb
def Do{m:Nat}:∀{b:Ξ},(∀ps∈b,(rims ps).length<=m)->(b.flatMap rims).length<=m*b.length
 |[],_=>by simp
 |p::r,h=>by
  have h1:=h p As;have h2:=Do (b:=r) fun q hq=>h q (Aq _ hq);rw[Bc,Ai,An,Nat.mul_succ];omega
def x5(K:Af):Sp:=fun vs H Q _=>∃l as pss,vs=[.ref l]/\SqL K H l (as.map V.ref)/\Tps H as (canon pss)/\(∀p∈pss,zS p=true)/\(canon pss).length<64/\∀D H2(bs:List Addr),Same H H2->H D=none->H2 D=some (.lst (bs.map V.ref))->Tps H2 bs (tops (canon pss))->Q (.ref D) H2
def rg:zq ["every","covered","piece","rim"] ["every"] (zh lw):=⟨rfl,rfl,rfl,δ,rfl,δ,δ⟩
def J1{f fr W fk:Addr}{fd X Y ck:FuncData}(F:Fun K "greatest_of" "greatest_of" lw f fd)(B:Bt mg)(Fr:Fun K "rims_of" "rims_of" lv fr X)(br:Binds K X ["piece"] [])(mr:mg "rims_of"=some (.ref fr))(Fo:Fun K "in_order" "in_order" li W Y)(bo:Binds K Y ["some"] [])(mo:mg "in_order"=some (.ref W))(Fk:Fun K "order_key" "order_key" d0 fk ck)(bk:Binds K ck ["piece"] [])(mk:mg "order_key"=some (.ref fk)):FnOk P w K mg base aJ 5 f fd ["every"] (x5 K):=by
 have Gr:FnOk P w K mg base aJ 1 fr X ["piece"] x4:=Dn Fr B;have Go:FnOk P w K mg base aJ 4 W Y ["some"] (xQ K):=C4 Fo B Fk bk mk;refine F.ok rg (fun vs H Q E h=>?_) (fun cdv A outer s H vs Q E hr h=>?_)
 ·obtain⟨l,as,pss,rfl,_⟩:=h;rfl
 ·obtain⟨l,as,pss,rfl,hl,O,o9,dy,k⟩:=h
  have hu:=gY hr;have U:Room 1 _:=hr.mono ξ;refine⟨_,zd (zp (i:=1) rg.nd rfl (Or.inr rfl) iQ)
   (zd (zK AG rfl (zr (pv 0)) (zk (i:=2) rg.nd rfl (Or.inl rfl))
    (zg (zK AG rfl (zr (zn Gr U rfl mr Fr.kp br .nil al (zb (pv 2) zc))) (zk (i:=3) rg.nd rfl (Or.inl rfl))
     (zg (ik hu (pv 1) (pv 3) fA rfl)))))
   (zg (zu (zn Go hr rfl mo Fo.kp bo .nil al (zb (zw ["every","covered","piece","rim"] ["piece","covered"] [none,some 1] (zr (pv 0)) (fun cl C s₀ H₀ ex=>zk (i:=0) (cF ["piece","covered"]) rfl (Or.inl rfl))
    (fun cl C s₀ H₀ ex=>g0 (Bg (G5 hu (pv 0) (pv 1)) (by with_unfolding_all rfl))) (fun cl C s₀ H₀ ex=>pv 0) (hfr:=ci (zh lw) δ) (tc:=tB (vu (am 0) (am 1)))) zc))))),?_⟩
  intro d hd;have aw:=O.length;have h5:∀p∈canon pss,p.length<=5:=fun p hp=>by
   obtain⟨q,hq,hx⟩:=List.mem_flatMap.mp (zB.mp hp);exact(zI.mp (nU (o9 q hq) hx)).2.1
  refine⟨_,rfl,l,rfl,⟨_,(Same.new hd).seq hl⟩,zC (K:=K) (a:=l) (xs:=as.map V.ref) (fun i σ H2=>∃(v o:Option V),σ=[some (.ref l),some (.ref d),v,o]/\Same H H2/\H2 d=some (.dT (dB (((canon pss).take i).flatMap rims))))
   ⟨none,none,rfl,Same.new hd,za⟩ (fun i σ H2 _ ⟨_,_,_,sm,_⟩=>sm.seq hl) ?_ ?_⟩
  ·rintro i x σ H2 hx ⟨v,o,rfl,sm,I⟩
   obtain⟨a,ea,rfl⟩:=zD hx;obtain⟨ps,S,aN⟩:=O.get ea;have bS:=h5 ps (Al S);have hi:i<(canon pss).length:=(List.getElem?_eq_some_iff.mp S).1;refine⟨_,rfl,a,ps,rfl,sm.tp aN,bS,fun D H3 cs u bH G hcs=>⟨D,rfl,⟨_,SqL.of G⟩,?_⟩⟩;have gJ:=hcs.length;have ju:D≠d:=aF G (u _ _ I) (by intro z;cases z);refine zC (K:=K) (a:=D) (xs:=cs.map V.ref) (fun j σ g=>∃(o:Option V),σ=[some (.ref l),some (.ref d),some (.ref a),o]/\Same H g/\g D=some (.lst (cs.map V.ref))/\Tps g cs (rims ps)/\g d=some (.dT (dB (((canon pss).take i).flatMap rims++(rims ps).take j))))
    ⟨_,rfl,sm.trans u,G,hcs,by rw[List.take_zero,AN];exact u _ _ I⟩ (fun j σ g _ ⟨_,_,_,q,_⟩=>SqL.of q) ?_ ?_
   ·rintro j x σ g hx ⟨o,rfl,y,N,T,J⟩
    obtain⟨c,ec,rfl⟩:=zD hx;obtain⟨f,ef,hf⟩:=T.get ec;have L:(dB (((canon pss).take i).flatMap rims++(rims ps).take j)).length<sizeLine:=by
     refine zM (AD (xR _) ?_);rw[Ai];have h1:=Do (m:=5) (b:=(canon pss).take i) (fun q hq=>AD (jS q) (h5 q (List.mem_of_mem_take hq)));have h2:=jS ps;rw[Ay] at h1 ⊢;omega
    refine⟨_,rfl,_,rfl,d,_,rfl,DPut.t (k:=f.map Sum.inl) J (by rw[Ap];exact hf) L,⟨_,rfl,y.then hd,?_,?_,?_⟩⟩
    ·rw[ab ju];exact N
    ·exact Tps.upd T J (by intro xs z;cases z)
    ·rw[za,xS,List.append_assoc,<-AF ef]
   ·rintro σ g ⟨o,rfl,y,N,T,J⟩
    refine⟨_,_,rfl,y,?_⟩;rw[Aa,gJ,take_all] at J;rw[AF S,List.flatMap_append,List.flatMap_singleton];exact J
  ·rintro σ H2 ⟨v,o,rfl,sm,I⟩
   rw[Aa,aw,take_all] at I;refine⟨_,rfl,l,rfl,⟨_,sm.seq hl⟩,fun wn bK=>zF (J0 (sm.seq hl) (sm.tps O) I ω bK fun H3 bs u dC hb=>?_)⟩;rw[Dj o9] at hb;refine⟨wn,bs,tops (canon pss),rfl,SqL.of dC,hb,Nat.lt_of_le_of_lt (List.length_filter_le _ _) dy,fun D g M y G N hp hs=>?_⟩;have gT:=hb.length;have hq:∀q∈M,Tp g q.2 q.1:=fun q hq=>by
    obtain⟨m,em⟩:=List.mem_iff_getElem?.mp (hp.mem_iff.mp hq);rw[bD.bw] at em;cases e1:(tops (canon pss))[m]? with
    |none=>rw[e1] at em;cases em
    |some f=>
     cases e2:bs[m]? with
     |none=>rw[e1,e2] at em;cases em
     |some b=>
      rw[e1,e2] at em;obtain rfl:(f,b)=q:=Am em;exact y.tp (iR hb m b f e2 e1)
   have r:(M.map (·.1)).Perm (tops (canon pss)):=by
    have:=hp.map (·.1);rw[List.map_fst_zip ω] at this;exact this
   have e:M.map (·.1)=tops (canon pss):=qF r ((List.pairwise_map.mpr hs).imp fun h=>jQ.mpr h) (JP pss);have oq:=u.trans y;refine k D g (M.map (·.2)) (sm.trans oq) (sm.free (u.free G)) (by rw[N,Ap];rfl) ?_;rw[<-e];exact x0 hq
end
end K50
end
section
namespace L2
open PySem PySem.Spec PyProof.Rows
section
variable{X:Cx}
def zpb:V->List V->Hp->VK->Prop:=fun x vs H Q=>∃d kvs k a,x=.ref d/\vs=[kV k,a]/\H d=some (.dK kvs)/\kvs.length<sizeLine/\
 ((∃v,aU kvs k=some v/\Q v H)\/(aU kvs k=none/\Q a (upd H d (.dK (putK kvs k a)))))
def J2:kN X "dict.setdefault" zpb:=by
 intro aa s σ H x vs v us Q I p y h;obtain⟨d,kvs,k,g,rfl,rfl,hd,hz,q⟩:=h;cases p;obtain⟨u,r,rfl,C,l⟩:=y.two;obtain⟨z,hs,b,a,dd⟩:=kU I.hok hd;have hw:b.length<=sizeLine:=by rw[<-a.length];exact z
 refine call_meetsIn PySem.F.slot_dict_setdefault dd.typeIs PySem.F.entry_dict_setdefault (PySem.F.args_dict_setdefault_3 _ _ _) (kt_meets_setdefault (zo X.prog X.w) d (jo C) hs r)
  ⟨b,dd,hw,fun G i=>?_,fun hn h' j A=>?_⟩
 ·rcases q with ⟨f,e,q⟩|⟨e,_⟩
  ·obtain⟨D,c,E⟩:=RelO.some_of (v:=f) (o:=valueAt b k) (by rw[<-e];exact a.val k)
   rw[i] at c;cases c;exact⟨f,H,I.tok _,E,q⟩
  ·have:=RelO.none_of (o:=valueAt b k) (by rw[<-e];exact a.val k)
   rw[i] at this;cases this
 ·rcases q with ⟨f,e,q⟩|⟨e,q⟩
  ·obtain⟨D,c,_⟩:=RelO.some_of (v:=f) (o:=valueAt b k) (by rw[<-e];exact a.val k)
   rw[hn] at c;cases c
  ·have he:∃q,h'.get? d=some q:=let ⟨q,_,_,hq,_⟩:=j;⟨q,hq⟩
   have hl:(putK kvs k g).length<=sizeLine:=by have:=mx kvs k g;omega
   exact⟨g,_,kY I (by rw[hd];exact True.intro) A he (dk_new hl hs (a.put k l) j),l,q⟩
def jU(v d:Addr):HO:=.ext fun h=>h.IsValuesView v d
def zpf:V->List V->Hp->VK->Prop:=fun x vs H Q=>∃d kvs,x=.ref d/\vs=[]/\H d=some (.dK kvs)/\∀v,H v=none->Q (.ref v) (upd H v (jU v d))
def J3:kN X "dict.values" zpf:=by
 intro aa s σ H x vs v us Q I a e h;obtain⟨d,kvs,rfl,rfl,hd,q⟩:=h;cases a;obtain rfl:=e.zero;obtain⟨z,hs,f,g,dd⟩:=kU I.hok hd;refine call_meetsIn PySem.F.slot_dict_values dd.typeIs PySem.F.entry_dict_values (PySem.F.args_dict_values_1 _) (meets_dict_values (zo X.prog X.w) d hs) ⟨⟨f,dd⟩,?_⟩;refine⟨.ref s⁻¹,_,I.laid (t':=s.toks) (o:=jU s⁻¹ d) (fun b ob q=>Ad _ q) (Ag _) ?_,rfl,q _ (I.hok.fresh (Ag _))⟩;refine⟨⟨_,Ao _ rfl,rfl,rfl⟩,⟨_,Ao _ rfl⟩,fun h1 h2 p k=>?_⟩;obtain⟨o,i,c⟩:=p;exact⟨o,k o i,c⟩
def J4(hc:X.calm=true):df X (.type "list") (fun xs H Q=>∃v d kvs,xs=[.ref v]/\H v=some (jU v d)/\H d=some (.dK kvs)/\∀l,H l=none->Q (.ref l) (upd H l (.lst (kvs.map (·.2))))):=by
 intro aa s σ H xs us Q I r h;obtain⟨v,d,kvs,rfl,f,hd,q⟩:=h;obtain⟨u,rfl,g⟩:=vals1 r;cases g;obtain⟨z,y,vs,a,dd⟩:=kU I.hok hd;obtain⟨ep,dd⟩:=dd.dictAt;have hl:=a.length;have j:s.heap.IsValuesView v d:=(show zJ X.prog X.w H s.heap v (jU v d) from I.hok v _ f).1;refine PySem.W.kdl_call (PySem.W.kdl_values (knd:=zo X.prog X.w) (kvs:=vs) (ep:=ep) (r:=v)) (I.ok.hd hc) ⟨j,dd⟩ (by rw[<-hl];exact z) fun h' tk acc b c e it=>?_;obtain⟨n1,n2⟩:=it;have o:Vals (kvs.map (·.2)) acc.toList:=by
  have key:∀{l:List (Key×V)}{m:List (Key×Value)}{as:List Value},KV l m->as.length=m.length->(∀(i:Nat) v,as[i]?=some v->∃k,m[i]?=some (k,v))->Vals (l.map (·.2)) as:=by
   intro l m as q
   induction q generalizing as with
   |nil=>intro h1 _;cases as with
    |nil=>exact .nil
    |cons _ _=>simp at h1
   |@cons p q' ps qs hq t ih=>
    intro h1 h2;cases as with
    |nil=>simp at h1
    |cons v as=>
     obtain⟨k,g1⟩:=h2 0 v rfl;simp only[List.getElem?_cons_zero,Option.some.injEq] at g1;refine .cons ?_ (ih (by simpa using h1) fun i v e=>by simpa using h2 (i+1) v (by simpa using e));show RelV p.2 v;have:=hq.2;rw[g1] at this;exact this
  exact key a (by simpa using n1) fun i v e=>n2 i v (by simpa using e)
 refine⟨.ref s⁻¹,_,I.laid c (Ag _) (show zJ X.prog X.w _ h' _ (.lst (kvs.map (·.2))) from⟨?_,acc.toList,b,o,by simpa using e⟩),rfl,q _ (I.hok.fresh (Ag _))⟩
 simpa using z
def Dp:∀{l:List (Key×V)}{m:List (Key×Value)}{i:Nat}{kv:Key×V},KV l m->l[i]?=some kv->∃w,m[i]?=some w/\kv.1=w.1/\RelV kv.2 w.2
 |_,_,0,_,.cons h _,e=>by cases e;exact⟨_,rfl,h⟩
 |_,_,i+1,_,.cons _ t,e=>Dp (i:=i) t (by simpa using e)
def n6(d:Addr)(o:Obj)(kvs:List (Key×V)):It:=⟨fun i H=>i<kvs.length/\H d=some (.frz o (.dK kvs)),fun i H v H'=>H'=H/\∃kv,kvs[i]?=some kv/\v=kV kv.1,fun i H=>i=kvs.length/\H d=some (.frz o (.dK kvs))⟩
def J5{P:Program}{w:World}{K:Af}{tg:Expr}(d it:Addr){o:Obj}{kvs:List (Key×V)}{es:Array DictEntry}{ep:Nat}(hx:o.ExactDict)(y:o.data=.dict es ep)(hsz:es.size=kvs.length)(hk:∀(i:Nat)kv(hi:i<es.size),kvs[i]?=some kv->RelV (kV kv.1) es[i].key):Turn P w K tg (n6 d o kvs) [it] it (fun i h=>h.IsKeyIter it d i es.size ep) where
 mem:=by simp
 obj:=fun i h st b hb=>by
  have e:b=it:=by simpa using hb
  subst e;obtain⟨o,e,c,dd⟩:=st;exact⟨o,e,fun v z=>by rw[dd] at z;cases z⟩
 keep:=fun i h h' st k=>by
  obtain⟨o,e,c⟩:=st;exact⟨o,k it (by simp) o e,c⟩
 item:=by
  intro X f hw g hc i aa s σ H E I hf st j;subst f hw g;obtain⟨l,f1,f2,p,q,f5⟩:=hf it (by simp);obtain⟨hi,r⟩:=j;have hm:Dk.IsD s.heap d es ep:=⟨o,(show zJ X.prog X.w H s.heap d (.frz o (.dK kvs)) from I.hok d _ r).1,hx,y⟩;have a:i<es.size:=by rw[hsz];exact hi
  refine Dk.item st hm a fun h' u C=>?_;have F:Inv X aa σ H {s with heap:=h'}:=I.turned (t':=s.toks) (fun b o hb e=>(C.2 b hb).trans e) l f1 p q f5;obtain⟨G,e1,e2,e3⟩:=id u;have x:kvs[i]?=some kvs[i]:=Ae hi;exact⟨_,rfl,l8 (s:={s with heap:=h'}) e1 e2 e3 ξ ⟨kV kvs[i].1,H,F,hk i _ a x,⟨rfl,_,x,rfl⟩,u,fun b hb=>(hf b hb).1⟩⟩
 done:=by
  intro X f hw g hc i aa s σ H E I hf st j;subst f hw g;obtain⟨l,f1,f2,p,q,f5⟩:=hf it (by simp);obtain⟨hi,r⟩:=j;have hm:Dk.IsD s.heap d es ep:=⟨o,(show zJ X.prog X.w H s.heap d (.frz o (.dK kvs)) from I.hok d _ r).1,hx,y⟩;have a:i=es.size:=by rw[hsz];exact hi
  subst a;exact Dk.done (I.ok.hd hc) st hm fun h' D=>⟨rfl,I.turned (t':=s.toks) (fun b o hb e=>D b o hb e) l f1 p q f5⟩
 self:=fun A i s Q E st h=>wpAny_pyIter_keyiter st h
def x6(te:TE):TI:=fun σ H R=>te σ H fun v H1=>∃d kvs,v=.ref d/\H1 d=some (.dK kvs)/\∀o,R (n6 d o kvs) (upd H1 d (.frz o (.dK kvs)))
def Dq{tg l:Expr}{tl:TE}(hl:PE X l tl):PI X tg l (x6 tl):=by
 intro aa s σ H R I h;refine aP (hl aa s σ H _ I h) fun v a ⟨x,H1,I1,p,r⟩=>?_;obtain⟨d,kvs,e,hd,q⟩:=r;subst e;cases p;obtain⟨z,hs,vs,c,dd⟩:=kU I1.hok hd;obtain⟨ep,u⟩:=dd.dictAt;obtain⟨o,es,f,hc,g,hk,hp,hn⟩:=id u;have hsz:es.size=kvs.length:=by
  have:=hp.length;rw[<-c.length] at this
  simpa using this
 have hm:Dk.IsD a.heap d es ep:=⟨o,f,hc,g⟩;refine Dk.iter hs hm ?_;have I2:Inv X aa σ (upd H1 d (.frz o (.dK kvs))) a:=kY (t':=a.toks) I1 (by rw[hd];exact True.intro) (Heap.SameBut.refl _ _) ⟨o,f⟩ ⟨f,z,hs,vs,c,dd⟩;have hfr:upd H1 d (.frz o (.dK kvs)) a⁻¹=none:=I2.hok.fresh (Ag _);refine⟨a⁻¹,[a⁻¹],_,_,_,rfl,I2.kept (t':=a.toks) fun b o e=>Ad _ e,J5 d _ hc g hsz (fun i kv hi e=>?_),⟨_,Ao _ rfl,rfl,rfl⟩,fun b hb=>?_,q o⟩
 ·obtain⟨j,w,h1,_⟩:=Dp c e
  have:=(hp.get? (e:=es[i]) (by simp[hi]) (show vs[i]?=some (j.1,j.2) from w)).1;rw[h1];exact Cn this
 ·have e:b=a⁻¹:=by simpa using hb
  subst e;exact I2.fpOk (Ag _) hfr
def Dr{d:Addr}{o:Obj}{kvs:List (Key×V)}{g:TG}{tb:TS}{D:Ends}{σ:St}{H:Hp}(a:Nat->St->Hp->Prop)(r:a 0 σ H)(hl:∀i σ H,i<=kvs.length->a i σ H->H d=some (.frz o (.dK kvs)))(hs:∀i kv σ H,kvs[i]?=some kv->a i σ H->g (kV kv.1) σ H fun c H2=>tb {D with nx:=a (i+1),ct:=a (i+1),bk:=D.nx} c H2)(hd:∀σ H,a kvs.length σ H->D.nx σ H):∃W:Nat->Nat->St->Hp->Prop,(∃m,W 0 m σ H)/\∀i m σ H,W i m σ H->
   ((n6 d o kvs).stop i H/\D.nx σ H)\/((n6 d o kvs).go i H/\∃N:St->Hp->Prop,(∀f H',N f H'->∃h,h<m/\W (i+1) h f H')/\∀x H',(n6 d o kvs).yld i H x H'->g x σ H' fun c H2=>tb {D with nx:=N,ct:=N,bk:=D.nx} c H2):=by
 refine⟨fun i m σ H=>m=kvs.length-i/\i<=kvs.length/\a i σ H,⟨kvs.length,by simp,AL _,r⟩,?_⟩;rintro i m σ H ⟨rfl,hi,p⟩;have q:=hl i σ H hi p
 by_cases b:i<kvs.length
 ·refine .inr ⟨⟨b,q⟩,a (i+1),fun f H' j=>⟨kvs.length-(i+1),ω,rfl,b,j⟩,fun x H' y=>?_⟩
  obtain⟨e,kv,l,rfl⟩:=y;subst e;exact hs i kv σ _ l p
 ·have e:i=kvs.length:=ω
  subst e;exact .inl ⟨⟨rfl,q⟩,hd σ H p⟩
def Ds{kvs:List (Key×V)}(hn:(kvs.map (·.1)).Nodup){k:Key}{v:V}(h:(k,v)∈kvs):aU kvs k=some v:=by
 unfold aU
 induction kvs with
 |nil=>cases h
 |cons a r ih=>
  rw[Av,List.nodup_cons] at hn;rcases List.mem_cons.mp h with e|e
  ·subst e
   simp
  ·have b:a.1≠k:=fun z=>hn.1 (by rw[z];exact List.mem_map_of_mem (f:=(·.1)) e)
   rw[List.find?_cons_of_neg (by simpa using b)];exact ih hn.2 e
def Dt{kvs:List (Key×V)}{k:Key}(h:∀kv∈kvs,kv.1≠k):aU kvs k=none:=by
 unfold aU;rw[List.find?_eq_none.mpr fun kv hk=>by simpa using h kv hk]
 rfl
end
end L2
end
section
namespace Dk
open PySem PySem.Spec PyProof.Rows
end Dk
namespace L2
open PySem PySem.Spec PyProof.Rows
section
variable{X:Cx}
def zG(hc:X.calm=true):df X (.type "list") (fun xs H Q=>∃a kvs,xs=[.ref a]/\Rd H a (.dT kvs)/\
  ∀(bs:List Addr),Paired (fun(p:List Key×V) b=>H b=some (.tup (p.1.map kV))) kvs bs->∀l,H l=none->Q (.ref l) (upd H l (.lst (bs.map V.ref)))):=by
 intro aa s σ H xs us Q I r h;obtain⟨a,kvs,rfl,hq,q⟩:=h;obtain⟨u,rfl,j⟩:=vals1 r;cases j;obtain⟨z,y,ys,c,o,es,ep,h1,h2,h3,d,h5⟩:=(show zJ X.prog X.w H s.heap a (.dT kvs) from hq.ok I.hok);have hl:es.size=kvs.length:=by
  have:=congrArg List.length d;rw[Aa,<-AZ c] at this
  simpa using this
 refine PySem.W.kdl_call (Dk.src (ep:=ep) (es:=es) y) (I.ok.hd hc) ⟨o,h1,h2,h3⟩ (by rw[hl];exact z) fun h' tk acc f g e it=>?_;obtain⟨n1,n2⟩:=it;have x:Paired (fun(p:List Key×V) b=>H b=some (.tup (p.1.map kV))) kvs (ys.map (·.2.1)):=by
  have:∀{l:List (List Key×V)}{m:List (List Key×Addr×Value)},KT H l m->Paired (fun(p:List Key×V) b=>H b=some (.tup (p.1.map kV))) l (m.map (·.2.1)):=by
   intro l m q
   induction q with
   |nil=>exact .nil
   |cons hq t ih=>exact .cons hq.2.1 ih
  exact this c
 have A:acc.toList=(ys.map (·.2.1)).map Value.ref:=by
  apply List.ext_getElem?;intro i;have hy:ys.length=acc.size:=by rw[n1,hl];exact(AZ c).symm
  by_cases hi:i<acc.size
  ·obtain⟨v,g1,g2⟩:=n2 i acc[i] (by simp[hi])
   have g3:es.toList[i]?=some v:=by simpa using g1
   rw[d,Ak] at g3;have g4:ys[i]?=some ys[i]:=by simp[hy,hi]
   rw[g4] at g3;simp only[Option.map_some,Option.some.injEq] at g3;simp only[Ak,g4,Option.map_some,AR,Array.getElem?_eq_getElem hi];rw[g2,<-g3]
   rfl
  ·have g1:acc.toList.length<=i:=by simp;omega
   have g2:((ys.map (·.2.1)).map Value.ref).length<=i:=by simp[hy];omega
   rw[List.getElem?_eq_none g1,List.getElem?_eq_none g2]
 have C:Vals ((ys.map (·.2.1)).map V.ref) acc.toList:=by
  rw[A];generalize ys.map (·.2.1)=bs
  induction bs with
  |nil=>exact .nil
  |cons b bs ih=>exact .cons rfl ih
 refine⟨.ref s⁻¹,_,I.laid g (Ag _) (show zJ X.prog X.w _ h' _ (.lst ((ys.map (·.2.1)).map V.ref)) from⟨?_,acc.toList,f,C,by simpa using e⟩),rfl,q _ x _ (I.hok.fresh (Ag _))⟩;simp only[Aa];rw[<-AZ c];exact z
end
end L2
end
section
namespace L2
open PySem PySem.Spec PyProof.Rows
def Rd.same{H H':Hp}{a:Addr}{u:HO}(r:Rd H a u)(s:Same H H'):Rd H' a u:=by
 rcases r with r|⟨o,r⟩
 ·exact .inl (s _ _ r)
 ·exact .inr ⟨o,s _ _ r⟩
end L2
end
section
namespace Dk
open PySem
section
variable{prog:Program}{w:World}{K:Type}[DecidableEq K]{knd:HeapKind prog w K}{A:Around}{E:Ω}{s:Shared}
def J6{d a:Addr}{xs:List (K×Addr×Value)}{k:K}{v:Value}{Q:Ω}(hu:knd.room A)(g:knd.is s.heap k a)(hm:s.heap.DictOfH knd d xs)(h1:∀p,atKey xs k=some p->Q p.2 {s with toks:=s.toks+knd.draws k})(h2:atKey xs k=none->∀h',h'.DictOfH knd d (storedH xs k a v)->A6 d s.heap h'->Q v {s with heap:=h',toks:=s.toks+knd.draws k})(hsz:xs.length<=sizeLine:=by size_fits):wpAny (model prog w) A (dictSetDefault d (.ref a) v) Q E s:=by
 obtain⟨o,es,ep,b,hc,hd,he,i,hn⟩:=hm;unfold dictSetDefault
 try with_reducible refine AM ?_
 refine Ab (knd.pyHash hu g ?_);refine Ab (wpAny_dictFind_heap (s:={s with toks:=s.toks+knd.draws k}) hu g b hd he i hn ?_ ?_)
 ·intro c
  have f:k∉xs.map (·.1):=not_mem_keys_of_get c;refine Ab (wpAny_rule (Ab (wpAny_updateDictKeys (hz:=by have e:=size_of_entries he;omega) (s:={s with toks:=s.toks+knd.draws k}) b hd (Ac (h2 (atKey_none_of_get c) _ ⟨_,_,ep+1,Heap.get?_update_self _ b (Obj.isFreed_of_dict (Obj.data_mapDictKeys hd _)),
   hc.mapDictKeys _,Obj.data_mapDictKeys hd _,?_,?_,?_⟩ (AO ..))))))
  ·rw[storedH_new (atKey_none_of_get c)]
   simp[he,entryOfKey]
  ·rw[storedH_new (atKey_none_of_get c)]
   intro x hx;rcases List.mem_append.mp hx with hx|hx
   ·exact knd.keeps (i x hx) b hd (AO ..)
   ·simp only[A3] at hx
    subst hx;exact knd.keeps g b hd (AO ..)
  ·rw[storedH_new (atKey_none_of_get c)]
   rw[Ah,AU];refine⟨hn,by simp,?_⟩;intro x hx y hy;simp only[Av,List.map_nil,A3] at hy;subst hy;exact fun e=>f (e▸hx)
 ·intro j p h
  refine Ab (wpAny_dictEntries (s:={s with toks:=s.toks+knd.draws k}) b hd ?_);rw[entry_at he j,h];exact Ab (wpAny_rule (Ac (h1 p (atKey_of_get hn h))))
end
end Dk
namespace L2
open PySem PySem.Spec PyProof.Rows
section
variable{X:Cx}
def zpi:V->List V->Hp->VK->Prop:=fun x vs H Q=>∃d kvs k b a,x=.ref d/\vs=[.ref b,a]/\H d=some (.dT kvs)/\H b=some (.tup (k.map kV))/\kvs.length<sizeLine/\
 ((∃v,aU kvs k=some v/\Q v H)\/(aU kvs k=none/\Q a (upd H d (.dT (putK kvs k a)))))
def J7(hu:X.A.units+1<cLine):kN X "dict.setdefault" zpi:=by
 intro aa s σ H x vs v us Q I D E h;obtain⟨d,kvs,k,b,g,rfl,rfl,hd,hb,hz,q⟩:=h;cases D;obtain⟨u,r,rfl,O,y⟩:=E.two;cases(show u=Value.ref b from O);obtain⟨z,hs,xs,a,dd⟩:=vl I.hok hd;have hx:xs.length<=sizeLine:=by rw[<-AZ a];exact z
 have U:s.TypeIs (.ref d) "dict":=dd.typeIs;have W:MeetsIn X.prog X.w (Builtin.«dict.setdefault» ⟨[.ref d,.ref b,r],[]⟩) (fun A R s'=>A.units+1<cLine/\(Bd (zo X.prog X.w)).is s'.heap k b/\s'.heap.DictOfH (Bd (zo X.prog X.w)) d xs/\
   (∀p,atKey xs k=some p->R (.ok (.ret p.2)) {s' with toks:=s'.toks+(Bd (zo X.prog X.w)).draws k})/\
   (atKey xs k=none->∀h',h'.DictOfH (Bd (zo X.prog X.w)) d (storedH xs k b r)->A6 d s'.heap h'->R (.ok (.ret r)) {s' with heap:=h',toks:=s'.toks+(Bd (zo X.prog X.w)).draws k})):=
  .of_wp fun A R s' ⟨G,hk,hm,h1,h2⟩=>by
   unfold Builtin.«dict.setdefault»;refine Ab ?_;unfold Builtin.Dict.keyAndDefault;refine Ab (wpAny_notOrdered_dict hm.typeIs ?_);show wpAny _ _ (pure (d,Value.ref b,some r)) _ _ s';refine Ac ?_;show wpAny _ _ (if(d==Be)=true then _ else(dictSetDefault d (.ref b) r >>= _)) _ _ s';rw[if_neg (by rw[hs];exact At)];exact Ab (Dk.J6 (knd:=Bd (zo X.prog X.w)) (tupleKind_room_in1 G) hk hm (fun p hp=>Ac ⟨p.2,rfl,h1 p hp⟩) (fun j h' J L=>Ac ⟨r,rfl,h2 j h' J L⟩) hx)
 refine call_meetsIn PySem.F.slot_dict_setdefault U PySem.F.entry_dict_setdefault (PySem.F.args_dict_setdefault_3 _ _ _) W ⟨hu,ij I.hok hb,dd,fun p hp=>?_,fun j h' M N=>?_⟩
 ·rcases q with ⟨i,e,q⟩|⟨e,_⟩
  ·obtain⟨P,f,S⟩:=RelO.some_of (v:=i) (o:=(atKey xs k).map (·.2)) (by rw[<-e];exact a.val k)
   rw[hp] at f;cases f;exact⟨i,H,I.tok _,S,q⟩
  ·have:=RelO.none_of (o:=(atKey xs k).map (·.2)) (by rw[<-e];exact a.val k)
   rw[hp] at this;cases this
 ·rcases q with ⟨i,e,q⟩|⟨e,q⟩
  ·obtain⟨P,f,_⟩:=RelO.some_of (v:=i) (o:=(atKey xs k).map (·.2)) (by rw[<-e];exact a.val k)
   rw[j] at f;cases f
  ·obtain⟨l,es,ep,hq,h2,h3,T,_,h5⟩:=M
   have hl:(putK kvs k g).length<=sizeLine:=by have:=mx kvs k g;omega
   refine⟨g,_,kY (ob:=.dT (putK kvs k g)) I (by rw[hd];exact True.intro) N ⟨l,hq⟩ ⟨hl,hs,_,(a.put k hb y).keeps fun c ys C=>?_,l,es,ep,hq,h2,h3,T,h5⟩,y,q⟩;rw[ab (aF C hd (fun z=>nomatch z))];exact C
end
end L2
end
section
namespace L2
open PySem PySem.Spec PyProof.Rows
abbrev Pp:Type:=List Int×List Int
def Pr2(H:Hp)(t:Addr)(x:Pp):Prop:=∃a b,H t=some (.tup [.ref a,.ref b])/\Tp H a x.1/\Tp H b x.2
def Prs2(H:Hp)(ts:List Addr)(xs:List Pp):Prop:=Paired (Pr2 H) ts xs
abbrev gt(x:Pp):PyData:=.tuple [.tuple (x.1.map AV),.tuple (x.2.map AV)]
abbrev fi(xs:List Pp):PyData:=.list (xs.map gt)
def Pr2.same{H H':Hp}{t:Addr}{x:Pp}(h:Pr2 H t x)(s:Same H H'):Pr2 H' t x:=let ⟨a,b,e,p,q⟩:=h;⟨a,b,s _ _ e,s.tp p,s.tp q⟩
def Prs2.same{H H':Hp}{ts:List Addr}{xs:List Pp}(h:Prs2 H ts xs)(s:Same H H'):Prs2 H' ts xs:=Paired.mapP h fun _ _ q=>q.same s
def Prs2.length{H:Hp}{ts:List Addr}{xs:List Pp}(h:Prs2 H ts xs):ts.length=xs.length:=AZ h
def Pr2.upd{H:Hp}{d t:Addr}{o o':HO}{x:Pp}(h:Pr2 H t x)(hd:H d=some o')(hn:∀xs,o'≠.tup xs):Pr2 (L2.upd H d o) t x:=by
 obtain⟨a,b,e,p,q⟩:=h;have go:∀{c:Addr}{ys:List V},H c=some (.tup ys)->L2.upd H d o c=some (.tup ys):=fun{c ys} f=>by rw[ab (aF f hd fun z=>hn _ z.symm)];exact f
 exact⟨a,b,go e,go (show H a=some _ from p),go (show H b=some _ from q)⟩
def Prs2.upd{H:Hp}{d:Addr}{o o':HO}{ts:List Addr}{xs:List Pp}(h:Prs2 H ts xs)(hd:H d=some o')(hn:∀xs,o'≠.tup xs):Prs2 (L2.upd H d o) ts xs:=Paired.mapP h fun _ _ q=>q.upd hd hn
def Prs2.snoc{H:Hp}{ts:List Addr}{xs:List Pp}{t:Addr}{x:Pp}(h:Prs2 H ts xs)(q:Pr2 H t x):Prs2 H (ts++[t]) (xs++[x]):=Paired.snoc h q
def Prs2.get{H:Hp}:∀{ts:List Addr}{xs:List Pp}{i:Nat}{t:Addr},Prs2 H ts xs->ts[i]?=some t->∃x,xs[i]?=some x/\Pr2 H t x
 |_,_,0,_,.cons h _,e=>by cases e;exact⟨_,rfl,h⟩
 |_,_,i+1,_,.cons _ t,e=>Prs2.get (i:=i) t (by simpa using e)
section
variable{X:Cx}{aa:Ψ}{σ:St}{H:Hp}{s:Shared}
def J8{t:Addr}{x:Pp}(I:Inv X aa σ H s)(h:Pr2 H t x):Reads s.heap (.ref t) (gt x) []:=by
 obtain⟨a,b,e,p,q⟩:=h;obtain⟨d,r,pt,_⟩:=I.tuple (SqT.of e);obtain rfl:=aQ (as:=[a,b]) r;obtain⟨o,c,hc,n,hd⟩:=id pt;exact .tuple c hc hd (.cons (as:=[]) (bs:=[]) (jA I p) (.cons (as:=[]) (bs:=[]) (jA I q) .nil))
def J9(I:Inv X aa σ H s):∀{ts:List Addr}{xs:List Pp},Prs2 H ts xs->ReadsAll s.heap (ts.map Value.ref) (xs.map gt) []:=by
 intro ts xs h
 induction h with
 |nil=>exact .nil
 |cons r t ih=>exact .cons (as:=[]) (bs:=[]) (J8 I r) ih
def Du{l:Addr}{ts:List Addr}{xs:List Pp}(I:Inv X aa σ H s)(hl:SqL X.K H l (ts.map V.ref))(h:Prs2 H ts xs):Reads s.heap (.ref l) (fi xs) [l]:=by
 obtain⟨b,r,p,_⟩:=I.list hl;obtain rfl:=aQ r;obtain⟨o,a,hc,n,hd⟩:=p.isList;exact .list a hc hd (by simpa using J9 I h)
end
def J_(x:Pp):PyData.canLay0 (gt x)=true:=by simp[PyData.canLay0,PyData.canLayAll0,wW,PySem.W.ke_canLayAll0]
def J'(x:Pp):PyData.depth (gt x)=2:=by simp[PyData.depth,PyData.depthAll,PySem.W.ke_depthAll]
def Dv:∀xs:List Pp,PyData.canLayAll0 (xs.map gt)=true
 |[]=>rfl
 |x::r=>by rw[Av,PyData.canLayAll0,J_,Dv r];rfl
def Dw:∀xs:List Pp,PyData.depthAll (xs.map gt)<=2
 |[]=>AL _
 |x::r=>by rw[Av,PyData.depthAll,J'];exact Nat.max_le.mpr ⟨Ag _,Dw r⟩
def Dx(xs:List Pp):SeqAt.shaped (fi xs)=true:=by
 have:=Dw xs;have e:PyData.depth (fi xs)<=64:=by rw[PyData.depth];omega
 unfold SeqAt.shaped;rw[decide_eq_true e,PyData.canLay0,Dv]
 rfl
def Ka(x y:Pp):same (gt x) (gt y)=decide (x=y):=by
 obtain⟨a,b⟩:=x;obtain⟨c,d⟩:=y;simp only[same,sameAll,PySem.W.ke_sameAll,Bool.and_true]
 by_cases h:a=c<;>by_cases h':b=d<;>simp[h,h']
def Dy:∀xs ys:List Pp,sameAll (xs.map gt) (ys.map gt)=decide (xs=ys)
 |[],[]=>by simp[sameAll]
 |[],_::_=>by simp[sameAll]
 |_::_,[]=>by simp[sameAll]
 |a::r,b::t=>by
  rw[Av,Av,sameAll,Ka,Dy r t]
  by_cases h:a=b<;>by_cases h':r=t<;>simp[h,h']
def Dz(xs:List Pp):(Shape.list (.tuples (.tuples .int))).has (fi xs)=true:=by simp[Shape.has]
def x8(neg:Bool)(K:Af):R2:=fun x y H Q=>∃l m ts us xs ys,x=.ref l/\y=.ref m/\SqL K H l (ts.map V.ref)/\Prs2 H ts xs/\SqL K H m (us.map V.ref)/\Prs2 H us ys/\Q (.bl (if neg then !decide (xs=ys) else decide (xs=ys))) H
def n7(neg:Bool)(K:Af):R2:=fun x y H Q=>∃a t ps z,x=.ref a/\y=.ref t/\Tp H a ps/\Pr2 H t z/\Q (.bl (if neg then !decide (ps=z.1\/ps=z.2) else decide (ps=z.1\/ps=z.2))) H
section
variable{X:Cx}
def Kb(hu:X.A.units+64<cLine):cb X (compareOp .NotEq) (x8 true X.K):=by
 intro aa s σ H x y v u Q I a b h;obtain⟨l,m,ts,us,xs,ys,rfl,rfl,hl,hp,hm,hq,q⟩:=h;cases a;cases b;refine ne_dataH_same (Du I hl hp) (Du I hm hq) (Dx _) (Dx _) hu (SeqAt.noMix_of_shape (.list (.tuples (.tuples .int))) rfl _ _ (Dz _) (Dz _)) ?_;rw[show same (fi xs) (fi ys)=decide (xs=ys) from by simp only[same];exact Dy xs ys];exact⟨.bl _,H,I,rfl,q⟩
def Kc(hu:X.A.in1.units<cLine):cb X (compareOp .NotIn) (n7 true X.K):=by
 intro aa s σ H x y v u Q I f g h;obtain⟨a,t,ps,z,rfl,rfl,i,⟨b,c,e,hb,hc⟩,q⟩:=h;cases f;cases g;obtain⟨j,r,pt,_⟩:=I.tuple (SqT.of e);obtain rfl:=aQ (as:=[b,c]) r;have d:Tps H [b,c] [z.1,z.2]:=.cons hb (.cons hc .nil);refine SeqAt.notIn_tupleAt (ip H ps) pt (fun w hw=>Cy I i hu d w (by simpa using hw)) ⟨.bl _,H,I,rfl,?_⟩;rw[show([b,c].map Value.ref).toArray.any (ip H ps)=([b,c].map Value.ref).any (ip H ps) by simp,Cv d];rw[show decide (ps∈[z.1,z.2])=decide (ps=z.1\/ps=z.2) from decide_eq_decide.mpr (by simp)];exact q
end
def jW{H:Hp}{d:Addr}{o o':HO}{as:List Addr}{pss:Ξ}(h:Tps H as pss)(hd:H d=some o')(hn:∀xs,o'≠.tup xs):Tps (L2.upd H d o) as pss:=
 Paired.mapP h fun a ps z=>by show L2.upd H d o a=_;rw[ab (aF (show H a=some _ from z) hd fun y=>hn _ y.symm)];exact z
def cof(S:List Pp)(r:List Int):Ξ:=(S.filter fun x=>decide (x.1=r)).map (·.2)
def ri(S T:List Pp)(r:List Int):cof (S++T) r=cof S r++cof T r:=by unfold cof;rw[AK,Ah]
def rj(x:Pp)(r:List Int):cof [x] r=if x.1=r then [x.2] else []:=by
 unfold cof
 by_cases h:x.1=r<;>simp[h]
def DA(S:List Pp)(r:List Int):(cof S r).length<=S.length:=by unfold cof;rw[Aa];exact List.length_filter_le _ _
def DB{S:List Pp}{r:List Int}(h:r∉S.map (·.1)):cof S r=[]:=by
 unfold cof;rw[List.filter_eq_nil_iff.mpr fun x hx=>by rw[decide_eq_false fun z=>h (List.mem_map.mpr ⟨x,hx,z⟩)];decide]
 rfl
abbrev En:Type:=List Int×Addr×List Addr
def cS(tab:List En):List (List Key×V):=tab.map fun e=>((e.1.map Sum.inl:List Key),V.ref e.2.1)
def n8{p q:List Int}:(p.map Sum.inl:List Key)=q.map Sum.inl↔p=q:=⟨fun z=>(List.map_inj_right (f:=(Sum.inl:Int->Key)) (fun x y h=>Sum.inl.inj h)).mp z,fun z=>by rw[z]⟩
def x9:∀{tab:List En}{p:List Int},p∉tab.map (·.1)->aU (cS tab) (p.map Sum.inl)=none
 |[],_,_=>rfl
 |e::r,p,h=>by
  have h1:e.1≠p:=fun z=>h (by rw[<-z];exact As);have a:=x9 (tab:=r) (p:=p) fun z=>h (Aq _ z);unfold aU cS at a ⊢;rw[Av,List.find?_cons,decide_eq_false (fun z=>h1 (n8.mp z))];exact a
def n9:∀{tab:List En},(tab.map (·.1)).Nodup->∀e∈tab,aU (cS tab) (e.1.map Sum.inl)=some (.ref e.2.1)
 |[],_,e,he=>nomatch he
 |x::r,hn,e,he=>by
  have a:(x.1::r.map (·.1)).Nodup:=hn;rw[List.nodup_cons] at a;unfold aU cS;rw[Av,List.find?_cons];rcases List.mem_cons.mp he with rfl|he'
  ·rw[decide_eq_true rfl];rfl
  ·have h1:x.1≠e.1:=fun z=>a.1 (by rw[z];exact List.mem_map.mpr ⟨e,he',rfl⟩)
   rw[decide_eq_false (fun z=>h1 (n8.mp z))];exact n9 (tab:=r) a.2 e he'
def Kd{tab:List En}{f:List Int}{L:Addr}{as:List Addr}(h:f∉tab.map (·.1)):putK (cS tab) (f.map Sum.inl) (.ref L)=cS (tab++[(f,L,as)]):=by
 unfold putK;have:((cS tab).any fun kv=>decide (kv.1=f.map Sum.inl))=false:=by
  rw[List.any_eq_false];intro kv a;obtain⟨e,he,rfl⟩:=List.mem_map.mp a;rw[decide_eq_true_eq];exact fun z=>h (by rw[<-n8.mp z];exact List.mem_map.mpr ⟨e,he,rfl⟩)
 rw[this];unfold cS;rw[Ah]
 rfl
def cj(f:List Int)(L:Addr)(as:List Addr)(tab:List En):List En:=tab.map fun e=>if e.1=f then(f,L,as) else e
def rn(f:List Int)(L:Addr)(as:List Addr)(tab:List En):(cj f L as tab).map (·.1)=tab.map (·.1):=by
 unfold cj;rw[Ap];refine AJ fun e _=>?_;show(if e.1=f then(f,L,as) else e).1=e.1
 by_cases h:e.1=f
 ·rw[if_pos h];exact h.symm
 ·rw[if_neg h]
def setE_mem{f:List Int}{L:Addr}{as:List Addr}{tab:List En}{x:En}(h:x∈cj f L as tab):(x=(f,L,as)/\f∈tab.map (·.1))\/(x∈tab/\x.1≠f):=by
 obtain⟨e,he,rfl⟩:=List.mem_map.mp h
 by_cases g:e.1=f
 ·rw[if_pos g];exact .inl ⟨rfl,List.mem_map.mpr ⟨e,he,g⟩⟩
 ·rw[if_neg g];exact .inr ⟨he,g⟩
def Ke{tab:List En}{f:List Int}{L:Addr}{as:List Addr}(h:f∈tab.map (·.1)):putK (cS tab) (f.map Sum.inl) (.ref L)=cS (cj f L as tab):=by
 unfold putK;have:((cS tab).any fun kv=>decide (kv.1=f.map Sum.inl))=true:=by
  obtain⟨e,he,rfl⟩:=List.mem_map.mp h;exact List.any_eq_true.mpr ⟨_,List.mem_map.mpr ⟨e,he,rfl⟩,decide_eq_true rfl⟩
 rw[this,if_pos rfl];unfold cS cj;rw[Ap,Ap];refine AJ fun e _=>?_;show(if(e.1.map Sum.inl:List Key)=f.map Sum.inl then((e.1.map Sum.inl:List Key),V.ref L) else _)=_
 by_cases g:e.1=f
 ·rw[if_pos (n8.mpr g)]
  show _=(((if e.1=f then(f,L,as) else e).1.map Sum.inl:List Key),V.ref (if e.1=f then(f,L,as) else e).2.1);rw[if_pos g,g]
 ·rw[if_neg fun z=>g (n8.mp z)]
  show _=(((if e.1=f then(f,L,as) else e).1.map Sum.inl:List Key),V.ref (if e.1=f then(f,L,as) else e).2.1);rw[if_neg g]
structure Ov(H0 H:Hp)(d:Addr)(S:List Pp)(tab:List En):Prop where
 hd:H d=some (.dT (cS tab))
 nk:(tab.map (·.1)).Nodup
 na:(tab.map (·.2.1)).Nodup
 ls:∀e∈tab,H e.2.1=some (.lst (e.2.2.map V.ref))/\Tps H e.2.2 (cof S e.1)/\H0 e.2.1=none
 ks:∀r,r∈tab.map (·.1)↔r∈S.map (·.1)
 len:tab.length<=S.length
def Ov.same{a H H':Hp}{d:Addr}{S:List Pp}{tab:List En}(o:Ov a H d S tab)(s:Same H H'):Ov a H' d S tab:=
 ⟨s _ _ o.hd,o.nk,o.na,fun e he=>⟨s _ _ (o.ls e he).1,s.tps (o.ls e he).2.1,(o.ls e he).2.2⟩,o.ks,o.len⟩
def Ov.new{a H:Hp}{d:Addr}(h:H d=some (.dT [])):Ov a H d [] []:=⟨h,A7,A7,(fun e he=>nomatch he),(fun r=>Iff.rfl),Ag _⟩
def Ov.get{c H:Hp}{d a:Addr}{S:List Pp}{tab:List En}{p:List Int}(o:Ov c H d S tab)(b:Tp H a p):(p∈S.map (·.1)/\∃A as,DGet H d (.ref a) (some (.ref A))/\H A=some (.lst (as.map V.ref))/\Tps H as (cof S p))\/(p∉S.map (·.1)/\DGet H d (.ref a) none):=by
 have hk:H a=some (.tup ((p.map Sum.inl:List Key).map kV)):=by rw[Ap];exact b
 by_cases h:p∈S.map (·.1)
 ·obtain⟨e,he,rfl⟩:=List.mem_map.mp ((o.ks p).mpr h)
  obtain⟨h1,h2,_⟩:=o.ls e he;exact .inl ⟨h,e.2.1,e.2.2,.inr ⟨_,_,a,.inl o.hd,rfl,hk,(n9 o.nk e he).symm⟩,h1,h2⟩
 ·exact .inr ⟨h,.inr ⟨_,_,a,.inl o.hd,rfl,hk,(x9 fun z=>h ((o.ks p).mp z)).symm⟩⟩
def Ov.put{w H:Hp}{d L:Addr}{S:List Pp}{tab:List En}{f ps:List Int}{as:List Addr}(o:Ov w H d S tab)(E:H L=some (.lst (as.map V.ref)))(F:Tps H as (cof S f++[ps]))(hn:L∉tab.map (·.2.1))(G:w L=none):∃C,Ov w (upd H d (.dT (putK (cS tab) (f.map Sum.inl) (.ref L)))) d (S++[(f,ps)]) C/\∀x,x∉tab.map (·.2.1)->x≠L->x∉C.map (·.2.1):=by
 have i:∀{A:Addr}{xs:List V},H A=some (.lst xs)->upd H d (.dT (putK (cS tab) (f.map Sum.inl) (.ref L))) A=some (.lst xs):=fun{A xs} e=>by rw[ab (aF e o.hd (by intro z;cases z))];exact e
 have a:∀{bs:List Addr}{I:Ξ},Tps H bs I->Tps (upd H d (.dT (putK (cS tab) (f.map Sum.inl) (.ref L)))) bs I:=fun h=>jW h o.hd (by intro xs z;cases z);have D:∀r,r≠f->cof (S++[(f,ps)]) r=cof S r:=fun r hr=>by rw[ri,rj,if_neg (fun z=>hr z.symm),AN]
 have b:cof (S++[(f,ps)]) f=cof S f++[ps]:=by rw[ri,rj,if_pos rfl]
 by_cases hf:f∈tab.map (·.1)
 ·refine⟨cj f L as tab,⟨by rw[za,Ke hf],by rw[rn];exact o.nk,?_,fun e he=>?_,fun r=>?_,?_⟩,fun x hx j z=>?_⟩
  ·have key:∀{t:List En},(t.map (·.1)).Nodup->(t.map (·.2.1)).Nodup->L∉t.map (·.2.1)->((cj f L as t).map (·.2.1)).Nodup:=by
    intro t
    induction t with
    |nil=>intro _ _ _;exact A7
    |cons e r ih=>
     intro hk J hl;have hk':(e.1::r.map (·.1)).Nodup:=hk;have v:(e.2.1::r.map (·.2.1)).Nodup:=J;rw[List.nodup_cons] at hk' v;have M:=ih hk'.2 v.2 (fun z=>hl (Aq _ z));show(((if e.1=f then(f,L,as) else e).2.1)::(cj f L as r).map (·.2.1)).Nodup;rw[List.nodup_cons];refine⟨fun z=>?_,M⟩;obtain⟨y,hy,c⟩:=List.mem_map.mp z
     by_cases g:e.1=f
     ·rw[if_pos g] at c
      rcases setE_mem hy with ⟨rfl,l⟩|⟨hm,_⟩
      ·exact hk'.1 (by rw[g];exact l)
      ·exact hl (Aq _ (by rw[show L=y.2.1 from c.symm];exact List.mem_map.mpr ⟨y,hm,rfl⟩))
     ·rw[if_neg g] at c
      rcases setE_mem hy with ⟨rfl,_⟩|⟨hm,_⟩
      ·exact hl (by rw[show L=e.2.1 from c];exact As)
      ·exact v.1 (by rw[<-c];exact List.mem_map.mpr ⟨y,hm,rfl⟩)
   exact key o.nk o.na hn
  ·rcases setE_mem he with ⟨rfl,_⟩|⟨hm,p⟩
   ·exact⟨i E,by rw[b];exact a F,G⟩
   ·obtain⟨q,s,u⟩:=o.ls e hm
    exact⟨i q,by rw[D _ p];exact a s,u⟩
  ·rw[rn,Ah,List.mem_append,o.ks]
   refine⟨.inl,fun z=>z.elim id fun z=>?_⟩;have:r=f:=by simpa using z
   rw[this];exact(o.ks f).mp hf
  ·unfold cj
   rw[Aa,Ai];have:=o.len;omega
  ·obtain⟨y,hy,rfl⟩:=List.mem_map.mp z
   rcases setE_mem hy with ⟨rfl,_⟩|⟨hm,_⟩
   ·exact j rfl
   ·exact hx (List.mem_map.mpr ⟨y,hm,rfl⟩)
 ·refine⟨tab++[(f,L,as)],⟨by rw[za,Kd hf],?_,?_,fun e he=>?_,fun r=>?_,?_⟩,fun x hx j z=>?_⟩
  ·rw[Ah,AU]
   refine⟨o.nk,by simp,fun x hx y hy z=>hf ?_⟩;have:y=f:=by simpa using hy
   rw[<-this,<-z];exact hx
  ·rw[Ah,AU]
   refine⟨o.na,by simp,fun x hx y hy z=>hn ?_⟩;have:y=L:=by simpa using hy
   rw[<-this,<-z];exact hx
  ·rcases List.mem_append.mp he with hm|hm
   ·obtain⟨q,s,u⟩:=o.ls e hm
    exact⟨i q,by rw[D _ (fun z=>hf (by rw[<-z];exact List.mem_map.mpr ⟨e,hm,rfl⟩))];exact a s,u⟩
   ·have:e=(f,L,as):=by simpa using hm
    subst this;exact⟨i E,by rw[b];exact a F,G⟩
  ·rw[Ah,Ah,List.mem_append,List.mem_append,o.ks]
   simp
  ·rw[Ai,Ai]
   have:=o.len;simp;omega
  ·rw[Ah] at z
   rcases List.mem_append.mp z with z|z
   ·exact hx z
   ·exact j (by simpa using z)
def Ov.app{F H:Hp}{d A a:Addr}{S:List Pp}{tab:List En}{f ps:List Int}{as:List Addr}(o:Ov F H d S tab)(he:(f,A,as)∈tab)(D:Tp H a ps):∃x,Ov F (upd H A (.lst (as.map V.ref++[.ref a]))) d (S++[(f,ps)]) x/\x.map (·.2.1)=tab.map (·.2.1):=by
 obtain⟨c,v,G⟩:=o.ls _ he;have c:H A=some (.lst (as.map V.ref)):=c;have v:Tps H as (cof S f):=v;have N:d≠A:=(aF c o.hd (by intro z;cases z)).symm;have q:∀{bs:List Addr}{E:Ξ},Tps H bs E->Tps (upd H A (.lst (as.map V.ref++[.ref a]))) bs E:=fun h=>jW h c (by intro xs z;cases z);have O:∀r,r≠f->cof (S++[(f,ps)]) r=cof S r:=fun r hr=>by rw[ri,rj,if_neg (fun z=>hr z.symm),AN]
 have s:cof (S++[(f,ps)]) f=cof S f++[ps]:=by rw[ri,rj,if_pos rfl]
 have w:f∈tab.map (·.1):=List.mem_map.mpr ⟨_,he,rfl⟩;have same:∀{t:List En},(t.map (·.1)).Nodup->(∀e∈t,e.1=f->e.2.1=A)->(cj f A (as++[a]) t).map (·.2.1)=t.map (·.2.1)/\cS (cj f A (as++[a]) t)=cS t:=by
  intro t _ hk;unfold cj cS;rw[Ap,Ap];refine⟨AJ fun e he=>?_,AJ fun e he=>?_⟩
  ·show(if e.1=f then(f,A,as++[a]) else e).2.1=e.2.1
   by_cases g:e.1=f
   ·rw[if_pos g];exact(hk e he g).symm
   ·rw[if_neg g]
  ·show(((if e.1=f then(f,A,as++[a]) else e).1.map Sum.inl:List Key),V.ref (if e.1=f then(f,A,as++[a]) else e).2.1)=_
   by_cases g:e.1=f
   ·rw[if_pos g]
    show((f.map Sum.inl:List Key),V.ref A)=_;rw[hk e he g,g]
   ·rw[if_neg g]
 have uniq:∀e∈tab,e.1=f->e=(f,A,as):=fun e hm g=>by
  have P:=n9 o.nk e hm;have Q:=n9 o.nk _ he;rw[g] at P;obtain⟨i,hi⟩:=List.getElem?_of_mem hm;obtain⟨j,l⟩:=List.getElem?_of_mem he;have e1:(tab.map (·.1))[i]?=some f:=by rw[Ak,hi,Option.map_some,g]
  have e2:(tab.map (·.1))[j]?=some f:=by rw[Ak,l];rfl
  have b:=(List.getElem?_inj (i:=i) (j:=j) (List.getElem?_eq_some_iff.mp e1).1 o.nk).mp (e1.trans e2.symm);rw[b,l] at hi;exact(Am hi).symm
 obtain⟨y,I⟩:=same (t:=tab) o.nk fun e hm g=>by rw[uniq e hm g]
 refine⟨cj f A (as++[a]) tab,⟨by rw[ab N,I];exact o.hd,by rw[rn];exact o.nk,by rw[y];exact o.na,fun e hm=>?_,fun r=>?_,?_⟩,y⟩
 ·rcases setE_mem hm with ⟨rfl,_⟩|⟨C,p⟩
  ·refine⟨by show upd H A _ A=_;rw[za,Ah];rfl,?_,G⟩
   show Tps _ (as++[a]) (cof (S++[(f,ps)]) f);rw[s];exact Tps.snoc (q v) (by show upd H A _ a=_;rw[ab (aF (show H a=some _ from D) c (by intro z;cases z))];exact D)
  ·obtain⟨J,L,M⟩:=o.ls e C
   have u:e.2.1≠A:=fun z=>p (by
    obtain⟨i,hi⟩:=List.getElem?_of_mem C;obtain⟨j,l⟩:=List.getElem?_of_mem he;have e1:(tab.map (·.2.1))[i]?=some A:=by rw[Ak,hi,Option.map_some,z]
    have e2:(tab.map (·.2.1))[j]?=some A:=by rw[Ak,l];rfl
    have b:=(List.getElem?_inj (i:=i) (j:=j) (List.getElem?_eq_some_iff.mp e1).1 o.na).mp (e1.trans e2.symm);rw[b,l] at hi;rw[<-Am hi])
   exact⟨by rw[ab u];exact J,by rw[O _ p];exact q L,M⟩
 ·rw[rn,Ah,List.mem_append,o.ks]
  refine⟨.inl,fun z=>z.elim id fun z=>?_⟩;have:r=f:=by simpa using z
  rw[this];exact(o.ks f).mp w
 ·unfold cj
  rw[Aa,Ai];have:=o.len;omega
end L2
end
section
namespace K50
open K1
open PySem L2 STb
abbrev jZ:Stmt:=top 28
abbrev lA:Stmt:=top 30
def ovS(kn:Ξ):List Pp:=kn.flatMap fun q=>(rims q).map fun r=>(r,q)
def DC{kn:Ξ}(h:∀p∈kn,p.length<=5):(ovS kn).length<=5*kn.length:=by
 unfold ovS
 induction kn with
 |nil=>simp
 |cons q r ih=>
  rw[Bc,Ai,Aa,An];have h1:=jS q;have h2:=h q As;have h3:=ih fun p hp=>h p (Aq _ hp);omega
def Kf{kn:Ξ}{q:List Int}{i:Nat}(h:kn[i]?=some q):ovS (kn.take (i+1))=ovS (kn.take i)++(rims q).map fun r=>(r,q):=by
 unfold ovS;rw[AF h,List.flatMap_append];simp
abbrev x_(K:Af):List V->Hp->VK->Prop:=fun xs H Q=>∃p ys,xs=[.ref p]/\(SqL K H p ys\/SqT K H p ys)/\Q (.int ys.length) H
section
variable{P:Program}{w:World}{K:Af}{mg:Str->Option Value}{base:Heap}
def dO{H:Hp}{b:Addr}{ps:List Int}(h:Tp H b ps):H b=some (.tup ((ps.map Sum.inl:List Key).map kV)):=by rw[Ap];exact h
end
def Kg{H:Hp}{a b:Addr}{x y:HO}(h:a≠b):upd (upd H a x) b y=upd (upd H b y) a x:=by
 funext c
 by_cases h1:c=a
 ·subst h1
  rw[ab h,za,za]
 ·by_cases h2:c=b
  ·subst h2
   rw[za,ab h1,za]
  ·rw[ab h2,ab h1,ab h1,ab h2]
def Ov.other{a H:Hp}{d x:Addr}{S:List Pp}{tab:List En}{xs ys:List V}(o:Ov a H d S tab)(hx:H x=some (.lst xs))(hn:x∉tab.map (·.2.1)):Ov a (upd H x (.lst ys)) d S tab:=by
 refine⟨?_,o.nk,o.na,fun e he=>?_,o.ks,o.len⟩
 ·rw[ab (aF hx o.hd (by intro z;cases z)).symm];exact o.hd
 ·obtain⟨b,c,f⟩:=o.ls e he
  exact⟨by rw[ab (fun z=>hn (List.mem_map.mpr ⟨e,he,z⟩))];exact b,jW c hx (by intro xs z;cases z),f⟩
def DD(S:List Pp)(p:List Int):Pp:=(p,(cof S p).headD [])
def dL(S:List Pp)(kn:Ξ):List Pp:=(kn.filter fun p=>decide ((cof S p).length=1)).map (DD S)
def Kh{a b:Type}{f:a->Bool}{g:a->b}{l:List a}{i:Nat}{x:a}(h:l[i]?=some x):((l.take (i+1)).filter f).map g=((l.take i).filter f).map g++(if f x=true then [g x] else []):=by
 rw[AF h,AK,Ah]
 congr 1
 by_cases e:f x=true
 ·rw[if_pos e,List.filter_cons_of_pos e];rfl
 ·rw[if_neg e,AT e];rfl
abbrev n_(K:Af):TT:=gX (cr pu (iO (x_ K) (cD (BY (am 1) (am 0) (mq bB)) bB)) (tC (.int 1)))
abbrev DE(K:Af):TE:=c5 (cD (am 0) (cD (cr (mu K) (iP (am 1) (am 0)) (tC (.int 0))) bB))
section
variable{P:Program}{w:World}{K:Af}{mg:Str->Option Value}{base:Heap}
def Ki{H0 H2:Hp}{L D d:Addr}{as:List Addr}{kn:Ξ}{S:List Pp}{tab:List En}{Q:VK}(hl:SqL K H2 L (as.map V.ref))(I:Tps H2 as kn)(ov:Ov H0 H2 d S tab)(hz:kn.length<=1000)(hS:S.length<=1000)(J:H2 D=none)(k:∀(c:Hp)(ts:List Addr),Same H2 c->c D=some (.lst (ts.map V.ref))->Prs2 c ts (dL S kn)->Q (.ref D) c):cg (dn K L) (cn 0) (n_ K) (DE K) [none,some (.ref d)] H2 D Q:=by
 have Y:=I.length;refine zH (xs:=as.map V.ref) (fun j σ ys c=>∃(v:Option V)(ts:List Addr),σ=[v,some (.ref d)]/\Same H2 c/\c D=some (.lst ys)/\ys=ts.map V.ref/\Prs2 c ts (dL S (kn.take j))) ?_ ?_ ?_ ?_
 ·exact⟨none,[],rfl,Same.new J,za,rfl,.nil⟩
 ·rintro j σ ys c ⟨v,ts,rfl,sm,e,rfl,hp⟩
  exact sm.seq hl
 ·rintro j σ ys c x hx w hy ⟨v,ts,rfl,sm,e,rfl,hp⟩
  obtain⟨a,O,rfl⟩:=zD hx;obtain⟨ps,P,T⟩:=I.get O;have hsz:(as.map V.ref).length<=sizeLine:=by rw[Aa];exact zf ω
  have C:=Kh (f:=fun p=>decide ((cof S p).length=1)) (g:=DD S) P;have hcl:=DA S ps;have G:=ov.same sm;refine⟨_,rfl,d,rfl,.inr ⟨_,.inl G.hd⟩,_,rfl,zf (by simp),fun M u=>?_⟩;have h:=Same.new (o:=.lst []) u;have U:=G.same h;have E:=(sm.trans h).tp T;have s:=h _ _ e;rcases U.get E with ⟨W,A,bs,l,F,y⟩|⟨X,l⟩
  ·have H:=y.length
   refine⟨_,l,A,_,rfl,.inl (SqL.of F),rfl,_,rfl,?_⟩;rw[show(bs.map V.ref).length=(cof S ps).length from by rw[Aa];exact H]
   by_cases h1:(cof S ps).length=1
   ·rw[show decide (V.int ((cof S ps).length:Int)=V.int 1)=true from decide_eq_true (by rw[h1];rfl)]
    obtain⟨b,rfl⟩:∃b,bs=[b]:=by
     match bs,H with
     |[b],_=>exact⟨b,rfl⟩
     |[],z=>simp[h1] at z
     |_::_::_,z=>simp[h1] at z
    obtain⟨q,eq⟩:∃q,cof S ps=[q]:=by
     match hc:cof S ps,h1 with
     |[q],_=>exact⟨q,rfl⟩
    have hb:Tp (upd c M (.lst [])) b q:=by
     rw[eq] at y;cases y with
     |cons r _=>exact r
    refine bb ⟨_,rfl,_,rfl,_,rfl,d,_,rfl,l,A,_,0,_,rfl,rfl,SqL.of F,zy (j:=0) rfl,zf (by simp),fun t N=>?_⟩;have i:=Same.new (o:=.tup [.ref a,.ref b]) N;refine bx hsz w hy (i _ _ s) ⟨_,ts++[t],rfl,((sm.trans h).trans i).then J,za,by rw[Ah];rfl,?_⟩;unfold dL;rw[C,if_pos (decide_eq_true h1)];refine Prs2.upd (Prs2.snoc (hp.same (h.trans i)) ⟨a,b,za,i.tp E,?_⟩) (i _ _ s) (by intro xs z;cases z);show Tp _ b ((cof S ps).headD []);rw[eq];exact i.tp hb
   ·rw[show decide (V.int ((cof S ps).length:Int)=V.int 1)=false from decide_eq_false fun z=>h1 (by injection z with z;omega)]
    refine aW (b7 w hy ⟨_,ts,rfl,sm.trans h,s,rfl,?_⟩);unfold dL;rw[C,if_neg (by rw[decide_eq_false h1];decide),AN];exact hp.same h
  ·refine⟨_,l,M,[],rfl,.inl (SqL.of za),rfl,_,rfl,?_⟩
   rw[show decide (V.int (([]:List V).length:Int)=V.int 1)=false from ξ];refine aW (b7 w hy ⟨_,ts,rfl,sm.trans h,s,rfl,?_⟩);unfold dL;rw[C,if_neg (by rw[DB X];decide),AN];exact hp.same h
 ·rintro σ ys c ⟨v,ts,rfl,sm,e,rfl,hp⟩
  rw[Aa,Y,take_all] at hp;exact k c ts sm e hp
def ro(K:Af):Sp:=fun vs H Q _=>∃l as kn,vs=[.ref l]/\SqL K H l (as.map V.ref)/\Tps H as kn/\(∀p∈kn,p.length<=5)/\kn.length<64/\∀D H' ts,Same H H'->H D=none->H' D=some (.lst (ts.map V.ref))->Prs2 H' ts (dL (ovS kn) kn)->Q (.ref D) H'
def rv:zq ["every","above","piece","rim"] ["every"] (zh jZ):=⟨rfl,rfl,rfl,δ,rfl,δ,δ⟩
def Kj{f fr:Addr}{fd dH:FuncData}(F:Fun K "free_among" "free_among" jZ f fd)(B:Bt mg)(Fr:Fun K "rims_of" "rims_of" lv fr dH)(br:Binds K dH ["piece"] [])(mr:mg "rims_of"=some (.ref fr)):FnOk P w K mg base aJ 2 f fd ["every"] (ro K):=by
 have Gr:FnOk P w K mg base aJ 1 fr dH ["piece"] x4:=Dn Fr B;refine F.ok rv (fun vs H Q E h=>?_) (fun cdv A outer s H vs Q E hr h=>?_)
 ·obtain⟨l,as,kn,rfl,_⟩:=h;rfl
 ·obtain⟨l,as,kn,rfl,hl,ht,h5,bj,k⟩:=h
  have hu:=gY hr;refine⟨_,zd (zp (i:=1) rv.nd rfl (Or.inr rfl) iQ)
   (zd (zK AG rfl (zr (pv 0)) (zk (i:=2) rv.nd rfl (Or.inl rfl))
    (zg (zK AG rfl (zr (zn Gr hr rfl mr Fr.kp br .nil al (zb (pv 2) zc))) (zk (i:=3) rv.nd rfl (Or.inl rfl))
     (zg (gN (eU PySem.F.plainAttrs_list PySem.F.slot_list_append PySem.F.type_list_append ig
      (eU PySem.F.plainAttrs_dict PySem.F.slot_dict_setdefault PySem.F.type_dict_setdefault (J7 hu) (pv 1) (zb (pv 3) (zb (z0 zc) zc))) (zb (pv 2) zc)))))))
   (zg (zu (zw ["every","above","piece","rim"] ["piece","above"] [none,some 1] (zr (pv 0)) (fun cl C s₀ H₀ ex=>zk (i:=0) (cF ["piece","above"]) rfl (Or.inl rfl))
    (fun cl C s₀ H₀ ex=>g0 (zt gU (zl zj rfl B.len cH (zb (vN hu (pv 1) (pv 0) (z0 zc) ⟨rfl,rfl,rfl,rfl⟩) zc)) zi (ao _)))
    (fun cl C s₀ H₀ ex=>ei (zb (pv 0) (zb (cd zU (zP hu (pv 1) (pv 0) (fun _ _=>rfl)) zi (fun _ _=>rfl)) zc))) (hfr:=ci (zh jZ) δ) (tc:=n_ K) (te:=DE K))))),?_⟩
  intro d hd;have aw:=ht.length;have qk:=DC h5;refine⟨_,rfl,l,rfl,⟨_,(Same.new hd).seq hl⟩,zC (K:=K) (a:=l) (xs:=as.map V.ref) (fun i σ H2=>∃(v O:Option V)(tab:List En),σ=[some (.ref l),some (.ref d),v,O]/\Same H H2/\Ov H H2 d (ovS (kn.take i)) tab)
   ⟨none,none,[],rfl,Same.new hd,by rw[List.take_zero];exact Ov.new za⟩ (fun i σ H2 _ ⟨_,_,_,_,sm,_⟩=>sm.seq hl) ?_ ?_⟩
  ·rintro i x σ H2 hx ⟨v,O,tab,rfl,sm,Y⟩
   obtain⟨a,ea,rfl⟩:=zD hx;obtain⟨ps,aH,aN⟩:=ht.get ea;have bS:=h5 ps (Al aH);have hi:i<kn.length:=(List.getElem?_eq_some_iff.mp aH).1;refine⟨_,rfl,a,ps,rfl,sm.tp aN,bS,fun D H3 cs ay bH X hcs=>⟨D,rfl,⟨_,SqL.of X⟩,?_⟩⟩;have gJ:=hcs.length;have jV:=Y.same ay;have qG:D∉tab.map (·.2.1):=fun z=>by
    obtain⟨e,he,ee⟩:=List.mem_map.mp z;have:=(Y.ls e he).1;rw[show e.2.1=D from ee,bH] at this;cases this
   refine zC (K:=K) (a:=D) (xs:=cs.map V.ref) (fun j σ u=>∃(O:Option V)(G:List En),σ=[some (.ref l),some (.ref d),some (.ref a),O]/\Same H u/\u D=some (.lst (cs.map V.ref))/\Tps u cs (rims ps)/\D∉G.map (·.2.1)/\Ov H u d (ovS (kn.take i)++((rims ps).take j).map fun r=>(r,ps)) G)
    ⟨_,tab,rfl,sm.trans ay,X,hcs,qG,by rw[List.take_zero,List.map_nil,AN];exact jV⟩ (fun j σ u _ ⟨_,_,_,_,q,_⟩=>SqL.of q) ?_ ?_
   ·rintro j x σ u hx ⟨O,G,rfl,W,aR,aS,eW,I⟩
    obtain⟨c,ec,rfl⟩:=zD hx;obtain⟨g,eg,hg⟩:=aS.get ec;have qk:(ovS (kn.take i)++((rims ps).take j).map fun r=>(r,ps)).length<=400:=by
     have h1:=DC (kn:=kn.take i) fun p hp=>h5 p (List.mem_of_mem_take hp);have h2:=jS ps;rw[Ay] at h1;rw[Ai,Aa,Ay];omega
    have J:(cS G).length<sizeLine:=by
     have:=I.len;unfold cS;rw[Aa];exact zM ω
    have T:(ovS (kn.take i)++((rims ps).take (j+1)).map fun r=>(r,ps))=(ovS (kn.take i)++((rims ps).take j).map fun r=>(r,ps))++[(g,ps)]:=by rw[AF eg,Ah,List.append_assoc];rfl
    generalize hS:ovS (kn.take i)++((rims ps).take j).map (fun r=>(r,ps))=S at I qk T;refine⟨_,rfl,.inr (.inr (.inl ⟨rfl,.inr ⟨_,I.hd⟩⟩)),_,rfl,zf (by simp),fun b y=>?_⟩;have M:=Same.new (o:=.lst []) y;have N:=I.same M;have oW:=M.tp hg;have kl:=(W.trans M).tp aN;have cz:=M _ _ aR;have iM:b∉G.map (·.2.1):=fun z=>by
     obtain⟨e,he,ee⟩:=List.mem_map.mp z;have:=(I.ls e he).1;rw[show e.2.1=b from ee,y] at this;cases this
    have h00:H b=none:=W.free y
    by_cases U:g∈G.map (·.1)
    ·obtain⟨⟨g',A,bs⟩,he,rfl⟩:=List.mem_map.mp U
     obtain⟨hA,eI,uP⟩:=N.ls _ he;have hA:upd u b (.lst []) A=some (.lst (bs.map V.ref)):=hA;have iE:=(show Tps _ bs (cof S g') from eI).length;have hcl:=DA S g';refine⟨d,_,g'.map Sum.inl,c,_,rfl,rfl,N.hd,dO oW,J,.inl ⟨_,n9 N.nk _ he,.inl ⟨rfl,_,SqL.of hA⟩,_,rfl,A,_,_,rfl,rfl,hA,by rw[Aa];exact zM ω,?_⟩⟩;obtain⟨ge,mB,nE⟩:=N.app he kl;refine⟨_,ge,rfl,(W.trans M).then uP,?_,Tps.upd (M.tps aS) hA (by intro xs z;cases z),by rw[nE];exact eW,by rw[T];exact mB⟩;rw[ab (fun z=>eW (by rw[z];exact List.mem_map.mpr ⟨_,he,rfl⟩))];exact cz
    ·have lE:d≠b:=ze I.hd y
     have e6:upd (upd (upd u b (.lst [])) d (.dT (putK (cS G) (g.map Sum.inl) (.ref b)))) b (.lst ([]++[.ref a]))=upd (upd (upd u b (.lst [])) b (.lst ([]++[.ref a]))) d (.dT (putK (cS G) (g.map Sum.inl) (.ref b))):=Kg lE;refine⟨d,_,g.map Sum.inl,c,_,rfl,rfl,N.hd,dO oW,J,.inr ⟨x9 U,.inl ⟨rfl,_,SqL.of (by rw[ab (Ne.symm lE)];exact za)⟩,_,rfl,b,[],_,rfl,rfl,by rw[ab (Ne.symm lE)];exact za,zM (by simp),?_⟩⟩;rw[e6];have pA:=Ov.other N (x:=b) (ys:=[]++[.ref a]) za iM;have pI:∀{bs:List Addr}{qs:Ξ},Tps (upd u b (.lst [])) bs qs->Tps (upd (upd u b (.lst [])) b (.lst ([]++[.ref a]))) bs qs:=fun h=>Tps.upd h za (by intro xs z;cases z);have bu:g∉S.map (·.1):=fun z=>U ((N.ks g).mpr z);obtain⟨ge,mB,hfr⟩:=pA.put (f:=g) (ps:=ps) (as:=[a]) (L:=b) (by rw[za];rfl) (by rw[DB bu];exact pI (.cons kl .nil)) iM h00;have jD:D≠b:=ze aR y;refine⟨_,ge,rfl,((W.trans M).then h00).then hd,?_,Tps.upd (pI (M.tps aS)) pA.hd (by intro xs z;cases z),hfr D eW jD,by rw[T];exact mB⟩;rw[ab (aF cz N.hd (by intro z;cases z)),ab jD];exact cz
   ·rintro σ u ⟨O,G,rfl,W,aR,aS,eW,I⟩
    refine⟨_,_,G,rfl,W,?_⟩;rw[Aa,gJ,take_all] at I;rw[Kf aH];exact I
  ·rintro σ H2 ⟨v,O,tab,rfl,sm,Y⟩
   rw[Aa,aw,take_all] at Y;exact⟨_,rfl,l,rfl,⟨_,sm.seq hl⟩,fun D X=>zF (Ki (sm.seq hl) (sm.tps ht) Y ω ω X fun H3 ts ay hD3 hp=>k D H3 ts (sm.trans ay) (sm.free X) hD3 hp)⟩
def Kk{H2:Hp}{L D:Addr}{as:List Addr}{kn:Ξ}{Q:VK}{p:List Int->Bool}{tc:TT}{c:List (Option V)}(r:∀(o:Addr)(os:List Int)(H:Hp)(R:Bool->Hp->Prop),Same H2 H->Tp H o os->os∈kn->(∀H',Same H H'->R (p os) H')->tc (some (.ref o)::c) H R)(hl:SqL K H2 L (as.map V.ref))(h:Tps H2 as kn)(hz:kn.length<=1000)(i:H2 D=none)(k:∀b bs,Same H2 b->b D=some (.lst (bs.map V.ref))->Tps b bs (kn.filter p)->Q (.ref D) b):cg (dn K L) (cn 0) tc (am 0) (none::c) H2 D Q:=by
 have q:=h.length;refine zH (xs:=as.map V.ref) (fun j σ ys b=>∃(v:Option V)(bs:List Addr),σ=v::c/\Same H2 b/\b D=some (.lst ys)/\ys=bs.map V.ref/\Tps b bs ((kn.take j).filter p)) ?_ ?_ ?_ ?_
 ·exact⟨none,[],rfl,Same.new i,za,rfl,.nil⟩
 ·rintro j σ ys b ⟨v,bs,rfl,sm,a,rfl,_⟩
  exact sm.seq hl
 ·rintro j σ ys b x hx f hy ⟨v,bs,rfl,sm,a,rfl,hb⟩
  obtain⟨o,l,rfl⟩:=zD hx;obtain⟨os,e,g⟩:=h.get l;have hn:(as.map V.ref).length<=sizeLine:=by rw[Aa];exact zf ω
  refine r o os b _ sm (sm.tp g) (Al e) fun s d=>?_;cases hp:p os
  ·refine aW (b7 f hy ⟨_,bs,rfl,sm.trans d,d _ _ a,rfl,?_⟩)
   rw[AF e,AK,AT (by rw[hp];simp),List.filter_nil,AN];exact d.tps hb
  ·refine bb ⟨_,rfl,bx hn f hy (d _ _ a) ⟨_,bs++[o],rfl,(sm.trans d).then i,za,by rw[Ah];rfl,?_⟩⟩
   rw[AF e,AK,List.filter_cons_of_pos hp];exact Tps.upd (Tps.snoc (d.tps hb) ((sm.trans d).tp g)) (d _ _ a) (by intro xs z;cases z)
 ·rintro σ ys b ⟨v,bs,rfl,sm,a,rfl,hb⟩
  rw[Aa,q,Ax (Ag _)] at hb;exact k b bs sm a hb
def x'(K:Af):Sp:=fun vs H Q _=>∃l t as kn z,vs=[.ref l,.ref t]/\SqL K H l (as.map V.ref)/\Tps H as kn/\kn.length<=1000/\Pr2 H t z/\∀D H' bs,Same H H'->H D=none->H' D=some (.lst (bs.map V.ref))->Tps H' bs (kn.filter fun x=>!decide (x=z.1\/x=z.2))->Q (.ref D) H'
def Kl:zq ["every","pair"] ["every","pair"] (zh lA):=⟨rfl,rfl,rfl,δ,rfl,δ,δ⟩
def DF{f:Addr}{fd:FuncData}(F:Fun K "taken_out" "taken_out" lA f fd):FnOk P w K mg base aJ 1 f fd ["every","pair"] (x' K):=by
 refine F.ok Kl (fun vs H Q E h=>?_) (fun cdv A outer s H vs Q E hr h=>?_)
 ·obtain⟨l,t,as,kn,z,rfl,_⟩:=h;rfl
 ·obtain⟨l,t,as,kn,z,rfl,hl,g,hz,hp,k⟩:=h
  have j:=hr.units;refine⟨_,zg (zu (zw ["every","pair"] ["piece","pair"] [none,some 1] (zr (pv 0)) (fun b C s₀ H₀ ex=>zk (i:=0) (cF ["piece","pair"]) rfl (Or.inl rfl))
   (fun b C s₀ H₀ ex=>g0 (zt (Kc (in1_units j)) (pv 0) (pv 1) (by with_unfolding_all rfl))) (fun b C s₀ H₀ ex=>pv 0) (hfr:=ci (zh lA) δ) (tc:=gX (cr (n7 true K) (am 0) (am 1))))),?_⟩
  refine⟨_,rfl,l,rfl,⟨_,hl⟩,fun D c=>?_⟩;refine zF (Kk (p:=fun x=>!decide (x=z.1\/x=z.2)) (fun o os H' R sm d _ hR=>⟨_,rfl,_,rfl,o,t,os,z,rfl,rfl,d,hp.same sm,_,rfl,?_⟩) hl g hz c fun q bs e a hb=>k D q bs e c a hb);rw[if_pos rfl];exact hR H' (Same.refl _)
end
end K50
end
section
namespace K1
def Km{pss:Ξ}(hp:∀p∈pss,zS p=true):∀(n:Nat)(x:List Int),5<=x.length+n->x∈canon pss->∃t∈tops (canon pss),x.Sublist t:=by
 have a:∀q∈canon pss,zS q=true:=fun q hq=>by
  obtain⟨r,hr,hx⟩:=List.mem_flatMap.mp (zB.mp hq);exact nU (hp r hr) hx
 intro n
 induction n with
 |zero=>
  intro x hn hx;refine⟨x,List.mem_filter.mpr ⟨hx,?_⟩,List.Sublist.refl _⟩;unfold iW;rw[decide_eq_true_eq,List.length_eq_zero_iff,List.filter_eq_nil_iff];intro o b c;unfold over at c;rw[AI,decide_eq_true_eq] at c;have:=(zI.mp (a o b)).2.1;omega
 |succ n ih=>
  intro x hn hx
  by_cases d:iW (canon pss) x=true
  ·exact⟨x,List.mem_filter.mpr ⟨hx,d⟩,List.Sublist.refl _⟩
  ·unfold iW at d
   rw[decide_eq_true_eq,List.length_eq_zero_iff] at d;obtain⟨o,b⟩:=List.exists_mem_of_ne_nil _ d;obtain⟨b,c⟩:=List.mem_filter.mp b;unfold over at c;rw[AI,decide_eq_true_eq,List.all_eq_true] at c;have hs:x.Sublist o:=lq o x (zI.mp (a o b)).2.2.2 (zI.mp (a x hx)).2.2.2 fun y hy=>of_decide_eq_true (c.2 y hy);obtain⟨t,d,e⟩:=ih o ω b;exact⟨t,d,hs.trans e⟩
end K1
end
section
namespace L2
open PySem PySem.Spec PyProof.Rows
section
variable{X:Cx}
def DG(a:List Int):∀k,k<=a.length->preSum (fun i=>(a[i]?).getD 0) k=(a.take k).sum
 |0,_=>by simp[preSum]
 |k+1,h=>by
  have b:=DG a k ω;have e:a[k]?=some a[k]:=Ae ω;show preSum (fun i=>(a[i]?).getD 0) k+(a[k]?).getD 0=_;rw[b,List.take_add_one,e,List.sum_append];simp
def ints_get{a:List Int}{b:List Value}(r:Vals (a.map V.int) b){i:Nat}{v:Value}(h:b[i]?=some v):∃n t,a[i]?=some n/\v=.int n t:=by
 have hl:b.length=a.length:=by rw[<-r.length,Aa]
 have hi:i<a.length:=by rw[<-hl];exact(List.getElem?_eq_some_iff.mp h).1
 have e:a[i]?=some a[i]:=Ae hi;obtain⟨u,hu,c⟩:=r.get (show(a.map V.int)[i]?=some (V.int a[i]) by rw[Ak,e];rfl);rw[h] at hu;obtain rfl:=Am hu;obtain⟨t,rfl⟩:=c;exact⟨_,t,e,rfl⟩
def DH(hc:X.calm=true):df X (.builtin "sum") (fun xs H Q=>∃(l:Addr)(a:List Int),xs=[.ref l]/\SqL X.K H l (a.map V.int)/\Q (.int a.sum) H):=by
 intro aa s σ H xs us Q I r h;obtain⟨l,a,rfl,hq,q⟩:=h;obtain⟨u,rfl,w⟩:=vals1 r;cases w;obtain⟨c,g,x,_⟩:=I.list hq;have hh:=I.ok.hd hc;have hl:=x.isList;have d:l<s⁻¹:=by obtain⟨_,e,_⟩:=hl;exact Ar e
 have hn:c.length=a.length:=by rw[<-g.length,Aa]
 refine call_sum_walkAnyS (wpAny_pyIter_list hl ?_);refine⟨s⁻¹,[s⁻¹,l],[s⁻¹],_,c.toArray.size,_,_,fun i=>(a[i]?).getD 0,rfl,(Walks.list (A:=X.A.in1) hh _ l (Az d) c.toArray).toS,
  ⟨⟨_,Ao _ rfl,rfl,rfl⟩,hl.push _⟩,fun b hb=>?_,fun i v j=>?_,fun s' t' hm=>?_⟩
 ·have f:b<=s⁻¹:=by
   simp only[List.mem_cons,List.not_mem_nil,or_false] at hb;rcases hb with rfl|rfl
   ·exact Ag _
   ·exact Nat.le_of_lt d
  exact Nat.lt_of_le_of_lt f (Ar (Ao _ rfl))
 ·obtain⟨n,t,e,rfl⟩:=ints_get g (show c[i]?=some v by simpa using j)
  exact⟨t,by simp only[e,Option.getD_some]⟩
 ·have e:preSum (fun i=>(a[i]?).getD 0) c.toArray.size=a.sum:=by
   rw[Aj,hn,DG a _ (Ag _),Ax (Ag _)]
  rw[e,Moved.eq_with hm];exact⟨.int _,H,I.kept (LSm.kept_iter fun b o hb p=>hm.heap b o hb p),⟨_,rfl⟩,q⟩
def zlO:V->List V->Hp->VK->Prop:=fun x vs H Q=>∃(l:Addr)(a:List Int)(n:Int),x=.ref l/\vs=[.int n]/\H l=some (.lst (a.map V.int))/\Q (.int (a.countP (·==n))) H
def DI(n:Int):∀{a:List Int}{b:List Value},Vals (a.map V.int) b->b.countP (fun u=>match u with|.int m _=>m==n|_=>false)=a.countP (·==n)
 |[],_,.nil=>rfl
 |m::a,_,.cons r t=>by
  obtain⟨tk,rfl⟩:=r;rw[List.countP_cons,List.countP_cons,DI n t]
def Kn:pF X "list.count" zlO:=by
 intro aa s σ H x vs v us Q I d f h;obtain⟨l,b,n,rfl,rfl,g,q⟩:=h;cases d;obtain⟨u,rfl,j⟩:=f.one;obtain⟨z,a,c,r,hl,e⟩:=I.lstM g;refine call_meets F.slot_list_count ⟨_,e,rfl⟩ F.entry_list_count (F.args_list_count_2 _ _) (SeqAt.list_countAt l a.toArray c none #[] u (fun u=>match u with|.int m _=>m==n|_=>false)) ⟨e,fun y hy=>?_,?_⟩
 ·obtain⟨i,hi⟩:=List.mem_iff_getElem?.mp (show y∈a by simpa using hy)
  obtain⟨m,t,em,rfl⟩:=ints_get r hi;exact GW (y:=.int m) (x:=.int n) ⟨t,rfl⟩ j rfl rfl
 ·have o:a.toArray.toList.countP (fun u=>match u with|.int m _=>m==n|_=>false)=b.countP (·==n):=DI n r
  exact⟨.int (b.countP (·==n)),H,I.tok _,⟨_,by rw[<-o]⟩,q⟩
def DJ{bt:Nat->Nat->Bool}{val:Nat->Int}(hb:∀i j,bt i j=decide (val j<val i)):∀k,argBest bt k<=k/\∀i,i<=k->val i<=val (argBest bt k)
 |0=>by
  rw[argBest.eq_1];exact⟨Ag _,fun i hi=>by have:i=0:=ω;rw[this];exact Int.le_refl _⟩
 |k+1=>by
  obtain⟨h1,h2⟩:=DJ hb k;rw[argBest.eq_2,hb]
  by_cases g:val (argBest bt k)<val (k+1)
  ·rw[if_pos (decide_eq_true g)]
   refine⟨Ag _,fun i hi=>?_⟩;rcases Nat.lt_or_ge i (k+1) with h|h
   ·have:=h2 i ω;omega
   ·have:i=k+1:=ω
    rw[this];exact Int.le_refl _
  ·rw[if_neg (fun z=>g (of_decide_eq_true z))]
   refine⟨Nat.le_succ_of_le h1,fun i hi=>?_⟩;rcases Nat.lt_or_ge i (k+1) with h|h
   ·exact h2 i ω
   ·have:i=k+1:=ω
    rw[this];omega
end
end L2
end
section
namespace PySem.MxD
open PyProof.Rows
abbrev lp(I S:Addr)(d:Value):Code:=.builtin "max.loop" ⟨[.ref I,.none,.ref S],[("default",d)]⟩
section
variable{prog:Program}{w:World}{A:Around}{R:Result->Shared->Prop}{I:Addr}{fp wr:List Addr}{n:Nat}{P:Nat->Value->Prop}{St:Nat->Heap->Prop}
def Ko(W:Walks prog w A.in1 I fp wr n P St)(S:Addr)(d:Value){s:Shared}{a:Value}{c:Nat}(f:S∉wr)(g:St n s.heap)(h:s.heap.get? S=some {cls:=.type "list",data:=.seq #[a,a] c})(l:∀h' tk,(∀b o,b∉wr->b≠S->s.heap.get? b=some o->h'.get? b=some o)->R (.ok (.ret a)) {s with heap:=h',toks:=tk}):codeAny (model prog w) A (lp I S d) R s:=by
 refine A4 F.entry_max_loop ?_;rw[AX F.plain_max_loop _];unfold Builtin.«max.loop»
 wp_delta
 refine Ab (A0 h rfl ?_);dsimp only;refine Ab (wpAny_tryCatch (W.done s _ _ g fun h' tk hk=>?_));have j:=hk S _ f h;show wpAny _ _ (updateSeq S (fun _=>#[]) >>= fun _=>letGo [a] [a] >>= fun _=>ret a) _ _ _;refine Ab (wpAny_updateSeq (s:={s with heap:=h',toks:=tk}) (hz:=by show 2<=sizeLine;rw[sizeLine_eq];decide) (_hz':=AL _) j rfl ?_);refine Ab (wpAny_letGo ?_);exact Ac (l _ _ fun b o hb i e=>(Heap.get?_update_other _ _ (Ne.symm i)).trans (hk b o hb e))
def Kp(W:Walks prog w A.in1 I fp wr n P St)(S:Addr)(d:Value){s:Shared}{c:Nat}(hn:n=0)(a:St 0 s.heap)(f:s.heap.get? S=some {cls:=.type "list",data:=.seq #[] c})(g:∀h' tk,(∀b o,b∉wr->b≠S->s.heap.get? b=some o->h'.get? b=some o)->R (.ok (.ret d)) {s with heap:=h',toks:=tk}):codeAny (model prog w) A (lp I S d) R s:=by
 refine A4 F.entry_max_loop ?_;rw[AX F.plain_max_loop _];unfold Builtin.«max.loop»
 wp_delta
 refine Ab (A0 f rfl ?_);dsimp only;refine Ab (wpAny_tryCatch (W.done s _ _ (by rw[hn];exact a) fun h' tk hk=>?_));show wpAny _ _ (rule (toString "max"++toString ".default") >>= fun _=>ret d) _ _ _;refine Ab (wpAny_rule ?_);exact Ac (g _ _ fun b o hb _ e=>hk b o hb e)
def lB(W:Walks prog w A.in1 I fp wr n P St)(bt:Nat->Nat->Bool)(hc:CmpOf prog w A.in1 .Gt P bt)(S:Addr)(d:Value)(a:S∉fp):∀(k j:Nat)(s:Shared)(f:Value)(c:Nat),n-(j+1)=k->j+1<=n->St (j+1) s.heap->P (argBest bt j) f->s.heap.get? S=some {cls:=.type "list",data:=.seq #[f,f] c}->
   (∀v h' tk,P (argBest bt (n-1)) v->(∀b o,b∉wr->b≠S->s.heap.get? b=some o->h'.get? b=some o)->R (.ok (.ret v)) {s with heap:=h',toks:=tk})->codeAny (model prog w) A (lp I S d) R s
 |0,j,s,f,c,hk,hj,hst,hp,hS,hQ=>by
  have hn:j+1=n:=ω
  have u:n-1=j:=ω
  refine Ko W S d (fun z=>a (W.sub _ z)) (hn▸hst) hS fun h' tk h=>hQ f h' tk (by rw[u];exact hp) h
 |k+1,j,s,f,c,hk,hj,hst,hp,hS,hQ=>by
  have x:S∉wr:=fun z=>a (W.sub _ z);refine A4 F.entry_max_loop ?_;rw[AX F.plain_max_loop _];unfold Builtin.«max.loop»
  wp_delta
  refine Ab (A0 hS rfl ?_);dsimp only;refine Ab (wpAny_tryCatch (W.item (j+1) s _ _ ω hst fun v h' tk C D h=>?_));have y:=h S _ x hS;refine Ab (Ac ?_)
  try dsimp only
  refine Ab (wpAny_tryCatch (AM (Ab (hc (j+1) (argBest bt j) v f _ _ _ C hp ?_))));refine Ab (AM (wpAny_truthy_bool ?_));refine Ab (wpAny_letGo (Ac ?_));cases hb:bt (j+1) (argBest bt j) with
  |true=>
   rw[if_pos rfl];refine Ab (wpAny_updateSeq (s:={s with heap:=h',toks:=tk}) (hz:=by show 2<=sizeLine;rw[sizeLine_eq];decide) (_hz':=by show 2<=sizeLine+1;rw[sizeLine_eq];decide) y rfl ?_);refine Ab (wpAny_letGo ?_);have G:=Heap.get?_update_self (AA fun _=>#[v,v]) y rfl;have E:∀b o,b≠S->h'.get? b=some o->(h'.update S (AA fun _=>#[v,v])).get? b=some o:=fun b o hb e=>(Heap.get?_update_other _ _ (Ne.symm hb)).trans e;refine Ac ⟨plainId_quiet F.plain_max_loop _,lB W bt hc S d a k (j+1) {s with heap:=h'.update S (AA fun _=>#[v,v]),toks:=tk} v _ ω ω (W.frame _ _ _ D fun b hb o e=>E b o (fun z=>a (z▸hb)) e) ?_ G fun l p q r g=>hQ l p q r fun b o hb i e=>g b o hb i (E b o i (h b o hb e))⟩;rw[argBest.eq_2,hb,if_pos rfl];exact C
  |false=>
   rw[if_neg ξ];refine Ab (wpAny_letGo ?_);refine Ac ⟨plainId_quiet F.plain_max_loop _,lB W bt hc S d a k (j+1) {s with heap:=h',toks:=tk} f c ω ω D ?_ y fun l p q r g=>hQ l p q r fun b o hb i e=>g b o hb i (h b o hb e)⟩;rw[argBest.eq_2,hb,if_neg ξ];exact hp
def Kq(W:Walks prog w A.in1 I fp wr n P St)(bt:Nat->Nat->Bool)(hc:CmpOf prog w A.in1 .Gt P bt)(S:Addr)(d:Value)(a:S∉fp){s:Shared}{c:Nat}(hn:0<n)(h:St 0 s.heap)(q:s.heap.get? S=some {cls:=.type "list",data:=.seq #[] c})(G:∀v h' tk,P (argBest bt (n-1)) v->(∀b o,b∉wr->b≠S->s.heap.get? b=some o->h'.get? b=some o)->R (.ok (.ret v)) {s with heap:=h',toks:=tk}):codeAny (model prog w) A (lp I S d) R s:=by
 have g:S∉wr:=fun z=>a (W.sub _ z);refine A4 F.entry_max_loop ?_;rw[AX F.plain_max_loop _];unfold Builtin.«max.loop»
 wp_delta
 refine Ab (A0 q rfl ?_);dsimp only;refine Ab (wpAny_tryCatch (W.item 0 s _ _ hn h fun v h' tk r u i=>?_));have l:=i S _ g q;refine Ab (Ac ?_)
 try dsimp only
 show wpAny _ _ (updateSeq S (fun _=>#[v,v]) >>= fun _=>again (lp I S d)) _ _ _;refine Ab (wpAny_updateSeq (s:={s with heap:=h',toks:=tk}) (hz:=AL _) (_hz':=by show 2<=sizeLine+1;rw[sizeLine_eq];decide) l rfl ?_);have E:=Heap.get?_update_self (AA fun _=>#[v,v]) l rfl;have p:∀b o,b≠S->h'.get? b=some o->(h'.update S (AA fun _=>#[v,v])).get? b=some o:=fun b o hb e=>(Heap.get?_update_other _ _ (Ne.symm hb)).trans e;exact Ac ⟨plainId_quiet F.plain_max_loop _,lB W bt hc S d a (n-1) 0 {s with heap:=h'.update S (AA fun _=>#[v,v]),toks:=tk} v _ ω ω (W.frame _ _ _ u fun b hb o e=>p b o (fun z=>a (z▸hb)) e) (by rw[argBest.eq_1];exact r) E fun x y C D f=>G x y C D fun b o hb j e=>f b o hb j (p b o j (i b o hb e))⟩
end
end PySem.MxD
end
section
namespace PySem.MxD
open PyProof.Rows
def Kr(a d:Value):argsOk "max" ⟨[a],[("default",d)]⟩:=by unfold argsOk;kernel_rfl
def Ks(d:Value):Builtin.Builtins.bindParams "max" ["key","default"] 0 {kw:=[("default",d)]}=pure [none,some d]:=by first|rfl|kernel_rfl|decide +kernel
def Kt{prog:Program}{w:World}{A:Around}{E:Ω}{s:Shared}{x d:Value}{Q:Ω}(h:wpAny (model prog w) A.in1 (pyIter x) (fun it s₂=>∃I fp wr n P St bt,it=.ref I/\Walks prog w A.in1 I fp wr n P St/\St 0 s₂.heap/\(∀b∈fp,b<s₂⁻¹)/\CmpOf prog w A.in1 .Gt P bt/\
   (n=0->∀h' tk,(∀b o,b∉wr->s₂.heap.get? b=some o->h'.get? b=some o)->Q d {s₂ with heap:=h',toks:=tk})/\
   (0<n->∀v h' tk,P (argBest bt (n-1)) v->(∀b o,b∉wr->s₂.heap.get? b=some o->h'.get? b=some o)->Q v {s₂ with heap:=h',toks:=tk})) E s):
  wpAny (model prog w) A (call (.builtin "max") [x] [("default",d)]) Q E s:=by
 refine kmb_tree F.kind_max F.plain_max F.entry_max (Kr _ _) ?_;unfold Builtin.max
 wp_delta
 have f:¬(({pos:=[x],kw:=[("default",d)]}:Args).pos.isEmpty=true):=fun z=>At z;rw[if_neg f];refine Ab (wpAny_of_eq (Ks d) ?_)
 try dsimp only
 refine Ab (Ac ?_);refine Ab (wpAny_mono h (fun it s₂ h2=>?_) fun _ _ z=>z);obtain⟨I,fp,wr,n,P,St,bt,rfl,W,c,q,hc,r,h1⟩:=h2;refine Ab (Bb ?_);have i:(s₂.heap.push {cls:=.type "list",data:=.seq ([]:List Value).toArray}).get? s₂⁻¹=some {cls:=.type "list",data:=.seq #[] 0}:=Ao _ rfl;have g:s₂⁻¹∉fp:=fun z=>Nat.lt_irrefl _ (q _ z);have j:St 0 (s₂.heap.push {cls:=.type "list",data:=.seq ([]:List Value).toArray}):=W.frame _ _ _ c fun b _ o e=>Ad _ e;have l:∀{h':Heap},(∀b o,b∉wr->b≠s₂⁻¹->(s₂.heap.push {cls:=.type "list",data:=.seq ([]:List Value).toArray}).get? b=some o->h'.get? b=some o)->∀b o,b∉wr->s₂.heap.get? b=some o->h'.get? b=some o:=
  fun a b o hb e=>a b o hb (Az (Ar e)) (Ad _ e)
 refine Ac ⟨plainId_quiet F.plain_max_loop _,?_⟩;rcases Nat.eq_zero_or_pos n with hn|hn
 ·exact Kp (s:={s₂ with heap:=s₂.heap.push {cls:=.type "list",data:=.seq ([]:List Value).toArray}}) W _ d hn j i fun h' tk a=>r hn h' tk (l a)
 ·exact Kq (s:={s₂ with heap:=s₂.heap.push {cls:=.type "list",data:=.seq ([]:List Value).toArray}}) W bt hc _ d g hn j i fun v h' tk p a=>h1 hn v h' tk p (l a)
end PySem.MxD
namespace L2
open PySem PySem.Spec PyProof.Rows
section
variable{X:Cx}
def Ku(K:Af)(ta:TA)(td:TE):TE:=fun σ H Q=>ta σ H fun vs H1=>td σ H1 fun x H2=>∃(l:Addr)(b:List Int)(d:Int),vs=[.ref l]/\x=.int d/\SqL K H2 l (b.map V.int)/\(b=[]->Q (.int d) H2)/\∀M,M∈b->(∀a∈b,a<=M)->Q (.int M) H2
def Kv{a e:Expr}{ta:TA}{td:TE}{p pos fh:Pos}(hg:Gl X "max")(hm:X.mg "max"=none)(r:A5 "max"=some (.builtin "max"))(z:PA X [a] ta)(hd:PE X e td)(hc:X.calm=true)(he:starEach [a] X.env=[(false,eval a X.env)]:=by rfl):PE X (.Call (.Name "max" p) [a] [⟨some "default",e,fh⟩] pos) (Ku X.K ta td):=by
 intro aa s σ H Q I h;refine wpAny_Call_Name_kw (jg I hg hm r ?_);refine callWith_kw ?_ (by rw[he];rfl) (by rw[he];rfl) rfl rfl;refine aP (z pos aa s σ H _ I h) fun us E ⟨vs,H1,I1,F,G⟩=>?_;refine kws_cons (aP (hd aa E σ H1 _ I1 G) fun dv g ⟨x,H2,I2,J,L⟩=>kws_nil ?_);obtain⟨l,c,d,rfl,rfl,hq,S,q⟩:=L;obtain⟨u,rfl,T⟩:=vals1 F;cases T;obtain⟨dt,rfl⟩:=J;show wpAny (model X.prog X.w) X.A (call (.builtin "max") [.ref l] [(Str.ofString "default",.int d dt)]) _ _ g;obtain⟨f,y,U,_⟩:=I2.list hq;have hh:=I.ok.hd hc;have hl:=U.isList;have o:l<g⁻¹:=by obtain⟨_,e,_⟩:=hl;exact Ar e
 have hn:f.length=c.length:=by rw[<-y.length,Aa]
 refine MxD.Kt (wpAny_pyIter_list hl ?_);refine⟨g⁻¹,[g⁻¹,l],[g⁻¹],f.toArray.size,_,_,fun i j=>decide ((c[j]?).getD 0<(c[i]?).getD 0),rfl,Walks.list (A:=X.A.in1) hh _ l (Az o) f.toArray,
  ⟨⟨_,Ao _ rfl,rfl,rfl⟩,hl.push _⟩,fun b hb=>?_,fun i j M N s' Q' E' hi O D=>?_,fun P h' tk hk=>?_,fun _ v h' tk r hk=>?_⟩
 ·have C:b<=g⁻¹:=by
   simp only[List.mem_cons,List.not_mem_nil,or_false] at hb;rcases hb with rfl|rfl
   ·exact Ag _
   ·exact Nat.le_of_lt o
  exact Nat.lt_of_le_of_lt C (Ar (Ao _ rfl))
 ·obtain⟨m,t,e,rfl⟩:=ints_get y (show f[i]?=some M by simpa using hi)
  obtain⟨m',t',W,rfl⟩:=ints_get y (show f[j]?=some N by simpa using O);simp only[e,W,Option.getD_some] at D;exact gt_int D
 ·have:c=[]:=AH (by rw[Aj] at P;omega)
  exact⟨.int d,H2,I2.kept (LSm.kept_iter hk),⟨dt,rfl⟩,S this⟩
 ·rw[Aj] at r
  obtain⟨b1,Y⟩:=DJ (bt:=fun i j=>decide ((c[j]?).getD 0<(c[i]?).getD 0)) (val:=fun i=>(c[i]?).getD 0) (fun i j=>rfl) (f.length-1);obtain⟨m,t,e,rfl⟩:=ints_get y (show f[argBest (fun i j=>decide ((c[j]?).getD 0<(c[i]?).getD 0)) (f.length-1)]?=some v by simpa using r);refine⟨.int m,H2,I2.kept (LSm.kept_iter hk),⟨t,rfl⟩,q m (Al e) fun a z=>?_⟩;obtain⟨i,hi⟩:=List.mem_iff_getElem?.mp z;have dY:i<c.length:=(List.getElem?_eq_some_iff.mp hi).1;have:=Y i ω;simp only[hi,e,Option.getD_some] at this;exact this
def gu(a:List Int)(lo hi st:Option Int):List Int:=(sliceRange (AW lo hi st a.length).fst (AW lo hi st a.length).snd.fst (AW lo hi st a.length).snd.snd).filterMap fun i=>a[i]?
def DK{b:List Int}{a:List Value}(r:Vals (b.map V.int) a):∀L:List Nat,Vals ((L.filterMap fun i=>b[i]?).map V.int) (L.filterMap fun i=>a.toArray[i]?)
 |[]=>.nil
 |i::L=>by
  have c:=DK r L;have hl:a.length=b.length:=by rw[<-r.length,Aa]
  have d:a.toArray[i]?=a[i]?:=by simp
  cases e:b[i]? with
  |none=>
   have e2:a.toArray[i]?=none:=by
    rw[d];rw[List.getElem?_eq_none_iff] at e ⊢;omega
   rw[List.filterMap_cons_none e,List.filterMap_cons_none e2];exact c
  |some n=>
   have hi:i<a.length:=by rw[hl];exact(List.getElem?_eq_some_iff.mp e).1
   have e2:a[i]?=some a[i]:=Ae hi;obtain⟨m,t,em,f⟩:=ints_get r e2;rw[e] at em;obtain rfl:=Am em;have e3:a.toArray[i]?=some (.int n t):=by rw[d,e2,f]
   rw[List.filterMap_cons_some e,List.filterMap_cons_some e3,Av];exact .cons ⟨t,rfl⟩ c
def Kw(a:List Int)(lo hi st:Option Int)(h:(sliceRange (AW lo hi st a.length).fst (AW lo hi st a.length).snd.fst (AW lo hi st a.length).snd.snd).length<=sizeLine):(gu a lo hi st).length<=sizeLine:=AD (List.length_filterMap_le _ _) h
def ya(K:Af)(te:TE)(tl th ts:TO):TE:=fun σ H Q=>te σ H fun x H1=>tl σ H1 fun l H2=>th σ H2 fun u d=>ts σ d fun k c=>∃(a:Addr)(b:List Int),x=.ref a/\SqL K c a (b.map V.int)/\k≠some 0/\(gu b l u k).length<=sizeLine/\
 ∀p,c p=none->Q (.ref p) (upd c p (.lst ((gu b l u k).map V.int)))
def DL{e:Expr}{te:TE}{lo hi st:Option Expr}{tl th ts:TO}{pos p2:Pos}(he:PE X e te)(hl:PO X lo tl)(hu:PO X hi th)(y:PO X st ts)(hw:∀v a,∃ops,subscripted (.Slice lo hi st p2) false v (.ref a)=operate ops (getItem v (.ref a)):=by intro _ _;exact⟨_,by with_unfolding_all rfl⟩):PE X (.Subscript e (.Slice lo hi st p2) pos) (ya X.K te tl th ts):=by
 intro aa s σ H Q I h;refine Subscript_ (aP (he aa s σ H _ I h) fun v C ⟨x,H1,W,D,E⟩=>?_);refine wpAny_Slice (aP (hl aa C σ H1 _ W E) fun i F ⟨l,H2,Y,G,J⟩=>aP (hu aa F σ H2 _ Y J) fun j L ⟨u,H3,I3,M,N⟩=>aP (y aa L σ H3 _ I3 N) fun p c ⟨k,H4,I4,O,P⟩=>?_);obtain⟨a,g,rfl,hq,hk,hz,q⟩:=P;cases D;have I5:Inv X aa σ H4 {c with heap:=c.heap.push {cls:=.type "slice",data:=.fields #[i,j,p]}}:=I4.kept (t':=c.toks) fun b ob q=>Ad _ q;obtain⟨S,r,z,T⟩:=I5.list hq;have d:S.length=g.length:=by rw[<-r.length,Aa]
 show wpAny (model X.prog X.w) X.A (subscriptTail e (.Slice lo hi st p2) (.ref a) (.ref c⁻¹)) (EP X aa σ Q) X.xe {c with heap:=c.heap.push {cls:=.type "slice",data:=.fields #[i,j,p]}};obtain⟨ops,U⟩:=hw (.ref a) c⁻¹;refine tail_any (ops:=ops) z.isList.typeIs slot_list_getitem.lookup ?_ U;refine wpAny_getItem_list_slice z.isList (Heap.IsSliceOf.new ..) G M O hk ?_ (by rw[Aj,d,<-Aa (f:=V.int)];exact T);refine⟨.ref (c.heap.push {cls:=.type "slice",data:=.fields #[i,j,p]}).objs.size,_,I5.laid (t':=c.toks) (o:=.lst ((gu g l u k).map V.int)) (fun b ob q=>Ad _ q) (Ag _) ?_,rfl,q _ (I5.hok.fresh (Ag _))⟩;refine⟨by rw[Aa];exact hz,_,0,?_,Ao _ rfl⟩;have:=DK r (sliceRange (AW l u k g.length).fst (AW l u k g.length).snd.fst (AW l u k g.length).snd.snd);unfold gu;rw[Aj,d];exact this
end
end L2
end
section
namespace K1
open PySem L2 STb
def lens(kn:Ξ):List Int:=kn.map fun p=>(p.length:Int)
def hiN(kn:Ξ):Nat:=kn.foldr (fun p m=>max p.length m) 0
def zA(kn:Ξ):List Int:=(kn.filter fun p=>decide (p.length=1)).map fun p=>p.headD 0
def fm(kn:Ξ)(k:Nat):Int:=((kn.filter fun p=>decide (p.length=k+1)).length:Int)
def c'(kn:Ξ):List Int:=(AB (hiN kn)).map (fm kn)
def fo(a:List Int):Int:=((AB a.length).map fun k=>a.getD k 0*(1-(k:Int)%2*2)).sum
def yb:∀{kn:Ξ}{p:List Int},p∈kn->p.length<=hiN kn
 |q::r,p,h=>by
  rcases List.mem_cons.mp h with rfl|h
  ·exact Nat.le_max_left _ _
  ·exact AD (yb h) (Nat.le_max_right _ _)
def hi_mem:∀kn:Ξ,hiN kn=0\/∃p∈kn,p.length=hiN kn
 |[]=>.inl rfl
 |q::r=>by
  have e:hiN (q::r)=max q.length (hiN r):=rfl;rcases Nat.le_total (hiN r) q.length with h|h
  ·exact .inr ⟨q,As,by rw[e,Nat.max_eq_left h]⟩
  ·rw[e,Nat.max_eq_right h]
   rcases hi_mem r with g|⟨p,hp,g⟩
   ·exact .inl g
   ·exact .inr ⟨p,Aq _ hp,g⟩
def DM{kn:Ξ}{m:Nat}(h:∀p∈kn,p.length<=m):hiN kn<=m:=by
 rcases hi_mem kn with g|⟨p,hp,g⟩
 ·omega
 ·rw[<-g];exact h p hp
def Kx{kn:Ξ}{M:Int}(b:0<=M)(h1:M=0\/M∈lens kn)(h2:∀a∈lens kn,a<=M):M=(hiN kn:Int):=by
 have g1:(hiN kn:Int)<=M:=by
  rcases hi_mem kn with g|⟨p,hp,g⟩
  ·omega
  ·rw[<-g];exact h2 _ (List.mem_map.mpr ⟨p,hp,rfl⟩)
 have g2:M<=(hiN kn:Int):=by
  rcases h1 with h|h
  ·omega
  ·obtain⟨p,hp,rfl⟩:=List.mem_map.mp h
   have:=yb hp;omega
 omega
def Ky(kn:Ξ)(k:Nat):(((lens kn).countP (·==((k:Int)+1)):Nat):Int)=fm kn k:=by
 unfold fm lens;rw[List.countP_map,<-List.countP_eq_length_filter]
 congr 1
 refine List.countP_congr fun p _=>?_;simp only[Function.comp,beq_iff_eq,decide_eq_true_eq];omega
def fL(lo:Option Int)(n:Nat)(L:List Nat)(h:sliceRange (AW lo none (some 2) n).fst (AW lo none (some 2) n).snd.fst (AW lo none (some 2) n).snd.snd=L)(a:List Int)(hn:a.length=n):gu a lo none (some 2)=L.filterMap fun i=>a[i]?:=by
 unfold gu;rw[hn,h]
def Kz(f:List Int)(h:f.length<=5):(gu f none none (some 2)).sum-(gu f (some 1) none (some 2)).sum=fo f:=by
 match f,h with
 |[],_=>
  rw[fL none 0 [] δ [] rfl,fL (some 1) 0 [] δ [] rfl];simp[fo,List.range_succ]
 |[a],_=>
  rw[fL none 1 [0] δ [a] rfl,fL (some 1) 1 [] δ [a] rfl];simp[fo,List.range_succ]
 |[a,b],_=>
  rw[fL none 2 [0] δ [a,b] rfl,fL (some 1) 2 [1] δ [a,b] rfl];simp[fo,List.range_succ];omega
 |[a,b,c],_=>
  rw[fL none 3 [0,2] δ [a,b,c] rfl,fL (some 1) 3 [1] δ [a,b,c] rfl];simp[fo,List.range_succ];omega
 |[a,b,c,d],_=>
  rw[fL none 4 [0,2] δ [a,b,c,d] rfl,fL (some 1) 4 [1,3] δ [a,b,c,d] rfl];simp[fo,List.range_succ];omega
 |[a,b,c,d,e],_=>
  rw[fL none 5 [0,2,4] δ [a,b,c,d,e] rfl,fL (some 1) 5 [1,3] δ [a,b,c,d,e] rfl];simp[fo,List.range_succ];omega
 |_::_::_::_::_::_::_,h=>simp at h
end K1
end
section
namespace K1
def snocInd{c:Type}{b:List c->Prop}(nil:b [])(append_singleton:∀l a,b l->b (l++[a]))(l:List c):b l:=by
 have:∀m:List c,b m.reverse:=fun m=>by
  induction m with
  |nil=>exact nil
  |cons a m ih=>rw[List.reverse_cons];exact append_singleton _ _ ih
 simpa using this l.reverse
def i9(p:List Int):Option (Int×Int):=match p with|[x,y]=>some (x,y)|_=>none
def bq(kn:Ξ):List (Int×Int):=kn.filterMap i9
def ren(nm:Int->Int)(e:Int×Int):Int->Int:=fun p=>if nm p=nm e.2 then nm e.1 else nm p
def bY(es:List (Int×Int)):Int->Int:=es.foldl ren id
def yd(es:List (Int×Int))(e:Int×Int):bY (es++[e])=ren (bY es) e:=by unfold bY;rw[List.foldl_append];rfl
def KA(kn:Ξ)(x y:Int):bq (kn++[[x,y]])=bq kn++[(x,y)]:=by unfold bq;rw[List.filterMap_append];rfl
def KB{p:List Int}(h:p.length≠2):i9 p=none:=by
 match p,h with
 |[],_=>rfl
 |[_],_=>rfl
 |[_,_],h=>exact absurd rfl h
 |_::_::_::_,_=>rfl
def KC(kn:Ξ){p:List Int}(h:p.length≠2):bq (kn++[p])=bq kn:=by unfold bq;rw[List.filterMap_append,List.filterMap_cons,KB h];simp
def DN{kn:Ξ}{e:Int×Int}:e∈bq kn↔[e.1,e.2]∈kn:=by
 unfold bq;rw[List.mem_filterMap];constructor
 ·rintro⟨p,hp,he⟩
  match p,he with
  |[x,y],he=>cases he;exact hp
 ·intro h
  exact⟨_,h,rfl⟩
def KD(nm:Int->Int)(e:Int×Int):ren nm e e.1=ren nm e e.2:=by
 unfold ren;rw[if_pos rfl];split<;>rfl
def KF(es:List (Int×Int)):∀e∈es,bY es e.1=bY es e.2:=by
 induction es using snocInd with
 |nil=>intro e h;cases h
 |append_singleton es a ih=>
  intro e h;rw[yd];rcases List.mem_append.mp h with h|h
  ·unfold ren
   rw[ih e h]
  ·have:e=a:=by simpa using h
   subst this;exact KD _ _
def KG(S:Int->Prop)(es:List (Int×Int)):(∀e∈es,S e.1↔S e.2)->∀p q,bY es p=bY es q->(S p↔S q):=by
 induction es using snocInd with
 |nil=>intro _ p q h;have:p=q:=h;rw[this]
 |append_singleton es a ih=>
  intro c p q h;have b:=ih fun e he=>c e (List.mem_append_left _ he);have d:=c a (by simp);rw[yd] at h;unfold ren at h
  by_cases h1:bY es p=bY es a.2
  ·by_cases h2:bY es q=bY es a.2
   ·exact b p q (h1.trans h2.symm)
   ·rw[if_pos h1,if_neg h2] at h
    exact(b p a.2 h1).trans (d.symm.trans (b a.1 q h))
  ·by_cases h2:bY es q=bY es a.2
   ·rw[if_neg h1,if_pos h2] at h
    exact(b p a.1 h).trans (d.trans (b a.2 q h2.symm))
   ·rw[if_neg h1,if_neg h2] at h
    exact b p q h
def da(acc:List Int)(k:Int):List Int:=if k∈acc then acc else acc++[k]
def fs(L:List Int):List Int:=L.foldl da []
def rx(L:List Int)(k:Int):fs (L++[k])=da (fs L) k:=by unfold fs;rw[List.foldl_append];rfl
def ry(L:List Int):∀x,x∈fs L↔x∈L:=by
 induction L using snocInd with
 |nil=>intro x;exact Iff.rfl
 |append_singleton L k ih=>
  intro x;rw[rx];unfold da;split
  ·rename_i h
   rw[ih,List.mem_append];constructor
   ·exact .inl
   ·rintro(q|q)
    ·exact q
    ·have:x=k:=by simpa using q
     rw[this];exact(ih k).mp h
  ·rw[List.mem_append,List.mem_append,ih]
def ye(L:List Int):(fs L).Nodup:=by
 induction L using snocInd with
 |nil=>exact A7
 |append_singleton L k ih=>
  rw[rx];unfold da;split
  ·exact ih
  ·rename_i h
   rw[AU];exact⟨ih,by simp,fun a c b hb e=>by
    have:b=k:=(by simpa using hb);subst this;subst e;exact h c⟩
def shr(nm:Int->Int)(a:List Int):Ξ:=(fs (a.map nm)).map fun k=>a.filter fun p=>decide (nm p=k)
def DO{pss:Ξ}{x:Int}:x∈zA (canon pss)↔[x]∈canon pss:=by
 unfold zA;rw[List.mem_map];constructor
 ·rintro⟨p,hp,rfl⟩
  obtain⟨h1,h2⟩:=List.mem_filter.mp hp;have h3:=of_decide_eq_true h2
  match p,h3 with
  |[y],_=>exact h1
 ·intro h
  exact⟨[x],List.mem_filter.mpr ⟨h,rfl⟩,rfl⟩
def DP{pss:Ξ}{x y:Int}(h:[x,y]∈canon pss):x∈zA (canon pss)/\y∈zA (canon pss):=by
 obtain⟨p,hp,hx⟩:=List.mem_flatMap.mp (zB.mp h);constructor
 ·exact DO.mpr (zB.mpr (List.mem_flatMap.mpr ⟨p,hp,xY hx (zv.mpr ⟨by simp,by simp⟩)⟩))
 ·exact DO.mpr (zB.mpr (List.mem_flatMap.mpr ⟨p,hp,xY hx (zv.mpr ⟨by simp,by simp⟩)⟩))
def DQ(pss:Ξ):(zA (canon pss)).Pairwise (·<·):=by
 unfold zA;rw[A2];have h1:((canon pss).filter fun p=>decide (p.length=1)).Pairwise (fun a b=>kle a b=true/\a≠b):=
  (((zQ pss).and (zZ pss))).sublist List.filter_sublist
 refine h1.imp_of_mem fun{a b} g hb h=>?_;have i:=of_decide_eq_true (List.mem_filter.mp g).2;have j:=of_decide_eq_true (List.mem_filter.mp hb).2
 match a,b,i,j with
 |[x],[y],_,_=>
  have hk:=h.1;have c:x≠y:=fun e=>h.2 (by rw[e]);show x<y;rw[jQ] at hk
  by_cases f:x<y
  ·exact f
  ·exfalso
   have d:y<x:=by lia
   simp[key,HT.lexLt,d] at hk;exact c hk.symm
def sg(q:List Int):Int:=1-2*(1-(q.length:Int)%2)
def fP(kn:Ξ):Int:=(kn.map sg).sum
def i'(q:List Int)(l:Ξ):fP (q::l)=sg q+fP l:=by unfold fP;rw[Av,List.sum_cons]
def KH{l m:Ξ}(h:l.Perm m):fP l=fP m:=by
 induction h with
 |nil=>rfl
 |cons x _ ih=>rw[i',i',ih]
 |swap x y l=>rw[i',i',i',i'];omega
 |trans _ _ ih1 ih2=>rw[ih1,ih2]
def fN(kn:Ξ)(n:Nat):Int:=((AB n).map fun k=>fm kn k*(1-(k:Int)%2*2)).sum
def yf(kn:Ξ)(n:Nat):fN kn (n+1)=fN kn n+fm kn n*(1-(n:Int)%2*2):=by
 unfold fN;rw[List.range_succ,Ah,List.sum_append];simp
def cnt_cons(q:List Int)(kn:Ξ)(k:Nat):fm (q::kn) k=(if q.length=k+1 then 1 else 0)+fm kn k:=by
 unfold fm
 by_cases h:q.length=k+1
 ·rw[List.filter_cons_of_pos (by simpa using h),if_pos h,An];omega
 ·rw[AT (by simpa using h),if_neg h];omega
def DR(q:List Int)(kn:Ξ):∀n,fN (q::kn) n=fN kn n+(if 1<=q.length/\q.length<=n then sg q else 0)
 |0=>by rw[if_neg ω];simp[fN]
 |n+1=>by
  rw[yf,yf,DR q kn n,cnt_cons]
  by_cases h:q.length=n+1
  ·rw[if_pos h,if_neg ω,if_pos ω]
   have:sg q=1-(n:Int)%2*2:=by unfold sg;rw[h];omega
   rw[this,Int.add_mul];omega
  ·rw[if_neg h,Int.zero_add]
   by_cases h2:1<=q.length/\q.length<=n
   ·rw[if_pos h2,if_pos ω];omega
   ·rw[if_neg h2,if_neg ω];omega
def DS:∀n,fN [] n=0
 |0=>rfl
 |n+1=>by rw[yf,DS n];simp[fm]
def DT(n:Nat):∀kn:Ξ,(∀q∈kn,1<=q.length/\q.length<=n)->fN kn n=fP kn
 |[],_=>DS n
 |q::kn,h=>by
  rw[DR,DT n kn fun x hx=>h x (Aq _ hx),if_pos (h q As),i'];omega
def KI{kn:Ξ}(h:∀q∈kn,1<=q.length):fo (c' kn)=fP kn:=by
 rw[<-DT (hiN kn) kn fun q hq=>⟨h q hq,yb hq⟩];unfold fo fN c';rw[Aa,List.length_range]
 congr 1
 refine AJ fun k hk=>?_;have hk':=List.mem_range.mp hk;rw[List.getD_eq_getElem?_getD,Ak,List.getElem?_range hk']
 rfl
def KJ{q:List Int}(h:q≠[]):1<=q.length:=by
 cases q with
 |nil=>exact absurd rfl h
 |cons _ _=>simp
def KL{pss:Ξ}{q:List Int}(h:q∈canon pss):q≠[]:=by
 obtain⟨p,_,hx⟩:=List.mem_flatMap.mp (zB.mp h);exact(zv.mp hx).1
def fv{pss:Ξ}{q:List Int}:q∈canon pss↔q≠[]/\∃t∈pss,q.Sublist t:=by
 rw[zB,List.mem_flatMap];constructor
 ·rintro⟨t,a,hq⟩
  exact⟨(zv.mp hq).1,t,a,(zv.mp hq).2⟩
 ·rintro⟨h,t,a,hq⟩
  exact⟨t,a,zv.mpr ⟨h,hq⟩⟩
def DU(pss:Ξ):fo (c' (canon pss))=fP (canon pss):=KI fun q hq=>KJ (KL hq)
def KM{pss:Ξ}(hp:∀p∈pss,zS p=true):canon (tops (canon pss))=canon pss:=by
 refine JG fun x=>⟨fun h=>?_,fun h=>?_⟩
 ·obtain⟨t,a,hx⟩:=List.mem_flatMap.mp h
  exact List.mem_flatMap.mpr ⟨t,Dg a,hx⟩
 ·obtain⟨t,a,hs⟩:=Km hp 5 x ω (zB.mpr h)
  obtain⟨p,_,hx⟩:=List.mem_flatMap.mp h;exact List.mem_flatMap.mpr ⟨t,a,zv.mpr ⟨(zv.mp hx).1,hs⟩⟩
def DV{X pss:Ξ}{P:List Int->Bool}(h:∀x,x∈canon X↔x∈canon pss/\P x=true):canon X=(canon pss).filter P:=
 qF ((List.perm_ext_iff_of_nodup (zZ X) ((zZ pss).filter P)).mpr fun x=>by rw[List.mem_filter];exact h x) (zQ X) ((zQ pss).sublist List.filter_sublist)
abbrev hol(t p:List Int):Bool:=(p.map fun x=>decide (x∈t)).all id
section
variable{pss:Ξ}{p:List Int}
def iv(hw:bO pss=true){q:List Int}(h:q∈canon pss):zS q=true:=by
 obtain⟨t,a,hx⟩:=List.mem_flatMap.mp (zB.mp h);exact nU ((lm hw).2.1 t a) hx
end
end K1
end
section
namespace K50
open K1
open PySem L2 STb
def j8{kn:Ξ}{p q:List Int}:q∈cof (ovS kn) p↔q∈kn/\p∈rims q:=by
 unfold cof ovS;rw[List.mem_map];constructor
 ·rintro⟨x,hx,rfl⟩
  obtain⟨h1,h2⟩:=List.mem_filter.mp hx;obtain⟨r,hr,hm⟩:=List.mem_flatMap.mp h1;obtain⟨y,hy,rfl⟩:=List.mem_map.mp hm;have:y=p:=of_decide_eq_true h2;subst this;exact⟨hr,hy⟩
 ·rintro⟨h1,h2⟩
  exact⟨(p,q),List.mem_filter.mpr ⟨List.mem_flatMap.mpr ⟨q,h1,List.mem_map.mpr ⟨p,h2,rfl⟩⟩,decide_eq_true rfl⟩,rfl⟩
def yh:∀{l:List Int}(_:l.Nodup){k:Nat}(hk:k<l.length),l.erase l[k]=l.take k++l.drop (k+1)
 |[],_,_,hk=>absurd hk (by simp)
 |a::r,_,0,_=>by simp
 |a::r,hn,k+1,hk=>by
  rw[List.nodup_cons] at hn;have hk':k<r.length:=by simpa using hk
  have b:a≠r[k]:=fun z=>hn.1 (by rw[z];exact A9 hk');show(a::r).erase r[k]=_;rw[List.erase_cons_tail (by simpa using b),yh hn.2 hk']
  rfl
def rz{l x:List Int}(hn:l.Nodup):x∈rims l↔l.length≠1/\∃a∈l,x=l.erase a:=by
 rw[hE];refine and_congr_right fun _=>⟨?_,?_⟩
 ·rintro⟨k,hk,rfl⟩
  refine⟨l[k],A9 hk,?_⟩;exact(yh hn hk).symm
 ·rintro⟨a,b,rfl⟩
  obtain⟨k,hk,rfl⟩:=List.getElem_of_mem b;refine⟨k,hk,?_⟩;exact yh hn hk
section
variable{pss:Ξ}(hw:∀p∈canon pss,zS p=true)
include hw
theorem hH{q:List Int}(h:q∈canon pss):q.Nodup/\q≠[]/\q.length<=5:=by
 obtain⟨a,h5,_,hp⟩:=zI.mp (hw _ h);exact⟨hp.imp fun h z=>absurd (z▸h) ω,a,h5⟩
theorem DW{q r:List Int}(hq:q∈canon pss)(hr:r∈rims q):r∈canon pss:=by
 obtain⟨b,t,a,hs⟩:=fv.mp hq;obtain⟨h1,k,hk,e⟩:=hE.mp hr;obtain⟨s,l⟩:=Di hk e;refine fv.mpr ⟨fun z=>?_,t,a,s.trans hs⟩;have:=congrArg List.length e;rw[z,Ai,Ay,List.length_drop,List.length_nil] at this;omega
theorem KN{p q:List Int}(h:cof (ovS (canon pss)) p=[q]):q∉(canon pss).flatMap rims:=fun z=>by
 obtain⟨r,hr,o⟩:=List.mem_flatMap.mp z;obtain⟨hq,s⟩:=j8.mp (show q∈cof (ovS (canon pss)) p by rw[h];exact As);obtain⟨c,_,_⟩:=hH hw hr;obtain⟨u,_,_⟩:=hH hw hq;obtain⟨hl,a,i,rfl⟩:=(rz c).mp o;obtain⟨f,b,hb,rfl⟩:=(rz u).mp s;obtain⟨v,j⟩:=(List.Nodup.mem_erase_iff c).mp hb;have l:r.erase b∈canon pss:=DW hw hr ((rz c).mpr ⟨hl,b,j,rfl⟩);have g:a∈r.erase b:=(List.Nodup.mem_erase_iff c).mpr ⟨Ne.symm v,i⟩;have d:(r.erase b).length=(r.erase a).length:=by rw[List.length_erase_of_mem j,List.length_erase_of_mem i]
 have hm:r.erase b∈cof (ovS (canon pss)) ((r.erase a).erase b):=j8.mpr ⟨l,(rz (hH hw l).1).mpr ⟨by rw[d];exact f,a,g,List.erase_comm a b⟩⟩;rw[h] at hm;have e:r.erase b=r.erase a:=by simpa using hm
 rw[e] at g;exact((List.Nodup.mem_erase_iff c).mp g).1 rfl
def cA(pss:Ξ)(z:Pp):Ξ:=(canon pss).filter fun x=>!decide (x=z.1\/x=z.2)
theorem yi{z:Pp}(h:z∈dL (ovS (canon pss)) (canon pss)):z.1∈canon pss/\cof (ovS (canon pss)) z.1=[z.2]:=by
 unfold dL at h;obtain⟨p,hp,rfl⟩:=List.mem_map.mp h;obtain⟨h1,h2⟩:=List.mem_filter.mp hp;have h2:=of_decide_eq_true h2;refine⟨h1,?_⟩;show cof (ovS (canon pss)) p=[(cof (ovS (canon pss)) p).headD []]
 match hc:cof (ovS (canon pss)) p,h2 with
 |[q],_=>rfl
theorem rB{z:Pp}(h:z∈dL (ovS (canon pss)) (canon pss)):canon (cA pss z)=cA pss z:=by
 obtain⟨hp,hc⟩:=yi hw h;have s:=KN hw hc;have a:∀{y x:List Int},y∈canon pss->x∈canon pss->y.Sublist x->y≠x->∃r∈canon pss,y∈rims r/\r.Sublist x:=by
  intro y x hy hx hs d;have hl:y.length<x.length:=by
   rcases Nat.lt_or_ge y.length x.length with g|g
   ·exact g
   ·exact absurd (hs.eq_of_length_le g) d
  obtain⟨r,k,h1,h2,h3,u⟩:=between hs hl;have D:y.length≠0:=fun e=>(hH hw hy).2.1 (AH e);obtain⟨_,t,f,i⟩:=fv.mp hx;exact⟨r,fv.mpr ⟨fun e=>by rw[e] at h2;simp at h2,t,f,h1.trans i⟩,hE.mpr ⟨ω,k,h2,u⟩,h1⟩
 unfold cA;refine DV fun x=>⟨fun hx=>?_,fun hx=>?_⟩
 ·obtain⟨h1,t,f,hs⟩:=fv.mp hx
  obtain⟨c,b⟩:=List.mem_filter.mp f;obtain⟨_,t',j,v⟩:=fv.mp c;have p:x∈canon pss:=fv.mpr ⟨h1,t',j,hs.trans v⟩;refine⟨p,?_⟩;have b:¬(t=z.1\/t=z.2):=by simpa using b
  show(!decide (x=z.1\/x=z.2))=true;rw[decide_eq_false]
  ·rfl
  rintro(rfl|rfl)
  ·obtain⟨r,hr,l,q⟩:=a p c hs fun e=>b (.inl e.symm)
   have hm:r∈cof (ovS (canon pss)) z.1:=j8.mpr ⟨hr,l⟩;rw[hc] at hm;have C:r=z.2:=by simpa using hm
   rw[C] at q hr;obtain⟨w,o,A,_⟩:=a hr c q fun e=>b (.inr e.symm);exact s (List.mem_flatMap.mpr ⟨w,o,A⟩)
  ·obtain⟨r,hr,l,_⟩:=a p c hs fun e=>b (.inr e.symm)
   exact s (List.mem_flatMap.mpr ⟨r,hr,l⟩)
 ·exact fv.mpr ⟨(hH hw hx.1).2.1,x,List.mem_filter.mpr hx,List.Sublist.refl _⟩
end
structure Cl(L:Ξ):Prop where
 can:canon L=L
 pc:∀p∈L,zS p=true
def rem(L:Ξ)(z:Pp):Ξ:=L.filter fun x=>!decide (x=z.1\/x=z.2)
def fr(L:Ξ):List Pp:=dL (ovS L) L
def KO{X pss:Ξ}(h:∀x,x∈canon X↔x∈canon pss):canon X=canon pss:=by
 have:=DV (X:=X) (pss:=pss) (P:=fun _=>true) fun x=>by rw[h];simp
 rw[this,List.filter_eq_self.mpr fun _ _=>rfl]
def Cl.of{pss:Ξ}(hw:bO pss=true):Cl (canon pss):=by
 refine⟨KO fun x=>?_,fun p hp=>iv hw hp⟩;rw[fv];refine⟨fun⟨a,t,b,hs⟩=>?_,fun h=>⟨(fv.mp h).1,x,h,List.Sublist.refl _⟩⟩;obtain⟨_,u,hu,c⟩:=fv.mp b;exact fv.mpr ⟨a,u,hu,hs.trans c⟩
def Cl.hw{L:Ξ}(c:Cl L):∀p∈canon L,zS p=true:=by rw[c.can];exact c.pc
def Cl.rem{L:Ξ}(c:Cl L){z:Pp}(h:z∈fr L):Cl (rem L z):=by
 have hz:z∈dL (ovS (canon L)) (canon L):=by rw[c.can];exact h
 have e:=rB c.hw hz;unfold cA at e;rw[c.can] at e;exact⟨e,fun p hp=>c.pc p (List.mem_filter.mp hp).1⟩
def Cl.tops{L:Ξ}(c:Cl L):L.filter (fun p=>!decide (p∈L.flatMap rims))=K1.tops L:=by
 have:=Dj c.pc;rw[c.can] at this;exact this
def KP{L:Ξ}{z:Pp}(h:z∈fr L):(rem L z).length<L.length:=by
 have hz:z.1∈L:=by
  unfold fr dL at h;obtain⟨p,hp,rfl⟩:=List.mem_map.mp h;exact(List.mem_filter.mp hp).1
 unfold rem;refine List.length_filter_lt_length_iff_exists.mpr ⟨z.1,hz,by simp⟩
def run:List (List Int)->List Pp->Option Ξ
 |L,[]=>some L
 |L,z::zs=>if z∈fr L then run (rem L z) zs else none
def rE:∀{zs:List Pp}{L M:Ξ},Cl L->run L zs=some M->Cl M/\M.Sublist L
 |[],L,M,c,h=>by cases h;exact⟨c,List.Sublist.refl _⟩
 |z::zs,L,M,c,h=>by
  unfold run at h
  by_cases hz:z∈fr L
  ·rw[if_pos hz] at h
   obtain⟨h1,h2⟩:=rE (c.rem hz) h;exact⟨h1,h2.trans List.filter_sublist⟩
  ·rw[if_neg hz] at h;cases h
def DX:∀{zs:List Pp}{L M:Ξ}{z:Pp},run L zs=some M->run L (zs++[z])=if z∈fr M then some (rem M z) else none
 |[],L,M,z,h=>by cases h;simp[run]
 |y::zs,L,M,z,h=>by
  unfold run at h
  by_cases hy:y∈fr L
  ·rw[if_pos hy] at h
   rw[List.cons_append];unfold run;rw[if_pos hy];exact DX h
  ·rw[if_neg hy] at h;cases h
def KQ{zs:List Pp}{L M:Ξ}(h:run L zs=some M)(hf:fr L=[]):M=L:=by
 cases zs with
 |nil=>cases h;rfl
 |cons z r=>
  unfold run at h;rw[hf,if_neg (by simp)] at h;cases h
def KR{M:Ξ}{x y:List Int}(hx:x∈K1.tops M)(hy:y∈M)(hs:x.Sublist y):x=y:=by
 obtain⟨h1,h2⟩:=List.mem_filter.mp hx;rcases Nat.lt_or_ge x.length y.length with hl|hl
 ·exfalso
  unfold iW at h2;have a:=of_decide_eq_true h2;have:y∈M.filter fun o=>over o x:=List.mem_filter.mpr ⟨hy,by unfold over;rw[decide_eq_true hl,Bool.true_and,List.all_eq_true];exact fun y hy=>decide_eq_true (hs.subset hy)⟩;rw[AH a] at this;cases this
 ·exact hs.eq_of_length_le hl
abbrev p6:List Int:=[0,1,2,3,4,5]
def dg(m:Nat):List Int:=p6.filter fun i=>m.testBit i.toNat
def DY:List (Nat×List (List Nat)):=[(7,[[1,3,11,27,59],[2,6,22,30,62],[4,5,13,29,61],[8,9,25,57],[10,14,15,31,63],[12,44,45],[16,17,19,23,55],[18,26,58],[20,21,53],[24,28,60],[32,33,35,51],[34,38,54],[36,37,39,47],[40,41,43],[42,46],[48,49],[50],[52],[56]]),(11,[[1,3,35,51],[2,6,14,15,31,63],[4,5,7,23,55],[8,9,13,29,61],[10,26,58],[12,28,60],[16,17,19,27,59],[18,22,30,62],[20,21,53],[24,25,57],[32,33,37,39,47],[34,42,46],[36,38,54],[40,41,43],[44,45],[48,49],[50],[52],[56]]),(13,[[1,3,35,39,47],[2,6,7,23,55],[4,5,21,29,61],[8,9,25,57],[10,11,27,59],[12,14,15,31,63],[16,17,19,51],[18,22,30,62],[20,28,60],[24,26,58],[32,33,37,53],[34,42,46],[36,38,54],[40,41,43],[44,45],[48,49],[50],[52],[56]]),(14,[[1,3,35,51],[2,6,7,15,31,63],[4,5,13,29,61],[8,9,11,27,59],[10,26,58],[12,28,60],[16,17,21,53],[18,19,23,55],[20,22,30,62],[24,25,57],[32,33,37,39,47],[34,42,46],[36,38,54],[40,41,43],[44,45],[48,49],[50],[52],[56]]),(19,[[1,3,11,27,59],[2,6,22,30,62],[4,5,7,39,47],[8,9,13,29,61],[10,14,15,31,63],[12,28,60],[16,17,21,23,55],[18,26,58],[20,52],[24,25,57],[32,33,35,51],[34,38,54],[36,37,53],[40,41,43],[42,46],[44,45],[48,49],[50],[56]]),(21,[[1,3,7,23,55],[2,6,22,54],[4,5,13,29,61],[8,9,41,43],[10,11,15,31,63],[12,14,30,62],[16,17,25,57],[18,19,27,59],[20,28,60],[24,26,58],[32,33,35,51],[34,38,39,47],[36,37,53],[40,42,46],[44,45],[48,49],[50],[52],[56]]),(22,[[1,3,11,27,59],[2,6,7,23,55],[4,5,21,29,61],[8,9,13,15,31,63],[10,14,30,62],[12,28,60],[16,17,19,51],[18,26,58],[20,52],[24,25,57],[32,33,35,39,47],[34,38,54],[36,37,53],[40,41,43],[42,46],[44,45],[48,49],[50],[56]]),(25,[[1,3,35,51],[2,6,14,46],[4,5,7,39,47],[8,9,11,27,59],[10,26,58],[12,13,15,31,63],[16,17,19,23,55],[18,22,30,62],[20,21,29,61],[24,28,60],[32,33,37,53],[34,42,43],[36,38,54],[40,41,57],[44,45],[48,49],[50],[52],[56]]),(26,[[1,3,7,23,55],[2,6,22,54],[4,5,13,29,61],[8,9,11,15,31,63],[10,14,30,62],[12,44,45],[16,17,25,57],[18,19,27,59],[20,21,53],[24,28,60],[32,33,35,51],[34,38,46],[36,37,39,47],[40,41,43],[42,58],[48,49],[50],[52],[56]]),(28,[[1,3,35,51],[2,6,14,30,62],[4,5,7,39,47],[8,9,11,27,59],[10,26,58],[12,13,15,31,63],[16,17,21,29,61],[18,19,23,55],[20,22,54],[24,25,57],[32,33,37,53],[34,42,43],[36,38,46],[40,41,45],[44,60],[48,49],[50],[52],[56]]),(35,[[1,3,11,27,59],[2,6,7,15,31,63],[4,5,37,53],[8,9,13,29,61],[10,26,58],[12,14,30,62],[16,17,21,23,55],[18,19,51],[20,22,54],[24,25,57],[28,60],[32,33,41,43],[34,38,39,47],[36,44,45],[40,42,46],[48,49],[50],[52],[56]]),(37,[[1,3,11,27,59],[2,6,7,15,31,63],[4,5,21,53],[8,9,13,29,61],[10,26,58],[12,14,30,62],[16,17,19,23,55],[18,22,54],[20,28,60],[24,25,57],[32,33,35,51],[34,38,39,47],[36,44,45],[40,41,43],[42,46],[48,49],[50],[52],[56]]),(38,[[1,3,11,27,59],[2,6,7,23,55],[4,5,21,29,61],[8,9,13,15,31,63],[10,26,58],[12,14,30,62],[16,17,19,51],[18,22,54],[20,28,60],[24,25,57],[32,33,37,53],[34,35,39,47],[36,44,45],[40,41,43],[42,46],[48,49],[50],[52],[56]]),(41,[[1,3,11,27,59],[2,6,7,15,31,63],[4,5,21,53],[8,9,13,29,61],[10,26,58],[12,14,30,62],[16,17,19,51],[18,22,23,55],[20,28,60],[24,25,57],[32,33,37,39,47],[34,35,43],[36,38,54],[40,42,46],[44,45],[48,49],[50],[52],[56]]),(42,[[1,3,19,23,55],[2,6,14,30,62],[4,5,7,39,47],[8,9,11,27,59],[10,26,58],[12,13,15,31,63],[16,17,25,57],[18,22,54],[20,21,29,61],[24,28,60],[32,33,37,53],[34,35,51],[36,38,46],[40,41,43],[44,45],[48,49],[50],[52],[56]]),(44,[[1,3,35,51],[2,6,14,30,62],[4,5,7,39,47],[8,9,11,27,59],[10,26,58],[12,13,15,31,63],[16,17,21,29,61],[18,19,23,55],[20,22,54],[24,25,57],[28,60],[32,33,37,53],[34,42,43],[36,38,46],[40,41,45],[48,49],[50],[52],[56]]),(49,[[1,3,35,51],[2,6,14,30,62],[4,5,7,39,47],[8,9,11,27,59],[10,26,58],[12,13,15,31,63],[16,17,21,29,61],[18,19,23,55],[20,22,54],[24,25,57],[28,60],[32,33,37,53],[34,42,43],[36,38,46],[40,41,45],[44],[48,50],[52],[56]]),(50,[[1,3,35,51],[2,6,14,30,62],[4,5,7,39,47],[8,9,11,27,59],[10,26,58],[12,13,15,31,63],[16,17,21,29,61],[18,19,23,55],[20,22,54],[24,25,57],[28,60],[32,33,37,53],[34,42,43],[36,38,46],[40,41,45],[44],[48,49],[52],[56]]),(52,[[1,3,35,51],[2,6,14,30,62],[4,5,7,39,47],[8,9,11,27,59],[10,26,58],[12,13,15,31,63],[16,17,21,29,61],[18,19,23,55],[20,22,54],[24,25,57],[28,60],[32,33,37,53],[34,42,43],[36,38,46],[40,41,45],[44],[48,49],[50],[56]]),(56,[[1,3,35,51],[2,6,14,30,62],[4,5,7,39,47],[8,9,11,27,59],[10,26,58],[12,13,15,31,63],[16,17,21,29,61],[18,19,23,55],[20,22,54],[24,25,57],[28,60],[32,33,37,53],[34,42,43],[36,38,46],[40,41,45],[44],[48,49],[50],[52]])]
def trp:List Nat:=[7,11,13,14,19,21,22,25,26,28,35,37,38,41,42,44,49,50,52,56]
def rF(a b:Nat):Bool:=Nat.land a b==a
def KS:(DY.all fun e=>e.2.length==19&&(e.2.all fun c=>c.all fun a=>c.all fun b=>rF a b|| rF b a)&&(AB 64).all fun m=>m==0|| m==e.1|| e.2.any fun c=>c.contains m)=true:=δ
def KU:(trp.all fun T=>DY.any fun e=>e.1==T)=true:=δ
def KW:((parts p6).all fun x=>(AB 64).any fun m=>!(m==0)&&decide (dg m=x))=true:=δ
def KY:((AB 64).all fun a=>(AB 64).all fun b=>!(rF a b)|| (dg a).isSublist (dg b))=true:=δ
def j9{A:Ξ}(v:A.Nodup)(U:∀x∈A,x∈parts p6)(w:∀x∈A,∀y∈A,x.Sublist y->x=y){T:Nat}(W:T∈trp)(hn:dg T∉A):A.length<=19:=by
 obtain⟨e,he,l⟩:=List.any_eq_true.mp (List.all_eq_true.mp KU T W);have l:e.1=T:=by simpa using l
 have hc:=List.all_eq_true.mp KS e he;rw[AI,AI] at hc;obtain⟨⟨o,D⟩,d⟩:=hc;have o:e.2.length=19:=by simpa using o
 have ex:∀x∈A,∃m i c,m<64/\dg m=x/\i<19/\e.2[i]?=some c/\m∈c:=fun x hx=>by
  obtain⟨m,hm,h2⟩:=List.any_eq_true.mp (List.all_eq_true.mp KW x (U x hx));rw[AI] at h2;have Q:m≠0:=by simpa using h2.1
  have f:dg m=x:=of_decide_eq_true h2.2;have h3:=List.all_eq_true.mp d m hm;rw[Bool.or_eq_true,Bool.or_eq_true] at h3;rcases h3 with (h3|h3)|h3
  ·exact absurd (by simpa using h3) Q
  ·have:m=T:=by rw[<-l];simpa using h3
   subst this;exact absurd (f▸hx) hn
  ·obtain⟨c,E,F⟩:=List.any_eq_true.mp h3
   obtain⟨i,hi⟩:=List.getElem?_of_mem E;exact⟨m,i,c,List.mem_range.mp hm,f,by rw[<-o];exact(List.getElem?_eq_some_iff.mp hi).1,hi,by simpa using F⟩
 classical
 let g:List Int->Nat:=fun x=>if h:x∈A then(ex x h).choose_spec.choose else 0
 have p:∀x(h:x∈A),∃m c,m<64/\dg m=x/\g x<19/\e.2[g x]?=some c/\m∈c:=fun x h=>by
  have e1:g x=(ex x h).choose_spec.choose:=dif_pos h;obtain⟨c,G,H,I,J,L⟩:=(ex x h).choose_spec.choose_spec;rw[e1];exact⟨(ex x h).choose,c,G,H,I,J,L⟩
 have inj:∀x∈A,∀y∈A,g x=g y->x=y:=fun x hx y hy z=>by
  obtain⟨m,c,q,rfl,X,r,M⟩:=p x hx;obtain⟨N,Y,n1,rfl,n3,s,O⟩:=p y hy;rw[z,s] at r;cases r;have P:=List.all_eq_true.mp (List.all_eq_true.mp (List.all_eq_true.mp D c (Al s)) m M) N O;have u:∀{a b:Nat},a<64->b<64->rF a b=true->(dg a).Sublist (dg b):=fun{a b} C hb hs=>by
   have:=List.all_eq_true.mp (List.all_eq_true.mp KY a (List.mem_range.mpr C)) b (List.mem_range.mpr hb);rw[hs] at this;exact List.isSublist_iff_sublist.mp (by simpa using this)
  rcases Bool.or_eq_true _ _▸P with h5|h5
  ·exact w _ hx _ hy (u q n1 h5)
  ·exact(w _ hy _ hx (u n1 q h5)).symm
 have S:(A.map g).Nodup:=by
  unfold List.Nodup at v ⊢;rw[A2];refine v.imp_of_mem fun{x y} hx hy j he=>j (inj x hx y hy he)
 have:=S.length_le_of_subset (l₂:=AB 19) fun i hi=>by
  obtain⟨x,hx,rfl⟩:=List.mem_map.mp hi;obtain⟨_,_,_,_,h3,_⟩:=p x hx;exact List.mem_range.mpr h3
 simpa using this
def oe:List (Nat×Nat):=[(15,15),(23,113),(27,402),(29,676),(30,840),(39,7169),(43,25602),(45,43012),(46,53256),(51,197648),(53,329760),(54,397376),(57,598144),(58,672000),(60,819712)]
def cvs:List Nat:=[15,113,402,676,840,7169,25602,43012,53256,197648,329760,397376,598144,672000,819712]
def rP:List Nat:=[15,113,127,402,415,499,676,687,757,840,847,889,950,986,1004,7169,7183,7281,7571,7845,8009,25602,25615,25715,26002,26278,26442,31747,43012,43023,43125,43414,43684,43852,48133,53256,53263,53369,53658,53932,54088,56329,60422,62474,63500,197648,197663,197745,198034,198324,198488,203793,222226,240660,250904,329760,329775,329841,330162,330404,330600,334881,355362,370724,383016,397376,397391,397425,397778,398052,398152,400449,422978,440388,446536,461872,463952,464992,598144,598159,598257,598418,598692,598984,605313,615554,632964,651400,672000,672015,672113,672146,672584,672676,679169,681218,708872,715012,730256,738576,745856,819712,819727,819825,819876,820040,820114,826881,829956,840200,845314,862368,887328,893568,938304,954944,967424,995520,1001760,1017360]
def KZ:(six.all fun p=>oe.any fun e=>p.isSublist (dg e.1))=true:=δ
def K0:(oe.all fun e=>cvs.contains e.2&&(AB 20).all fun t=>e.2.testBit t|| !((dg (trp.getD t 0)).isSublist (dg e.1)))=true:=δ
def K2:((AB 20).all fun t=>trp.contains (trp.getD t 0))=true:=δ
def K3:(cvs.all fun a=>cvs.all fun b=>rP.contains (Nat.lor a b))=true:=δ
def K4:(cvs.all fun a=>Nat.blt a 1048576)=true:=δ
def iw:(rP.all fun a=>rP.all fun b=>cvs.all fun c=>!(Nat.beq (Nat.lor (Nat.lor a b) c) 1048575))=true:=δ
def miss{u:Nat}(h:u<1048576)(hn:u≠1048575):∃t,t<20/\u.testBit t=false:=by
 apply Classical.byContradiction;intro hc;have hb:∀t,t<20->u.testBit t=true:=fun t a=>by
  cases e:u.testBit t with
  |true=>rfl
  |false=>exact absurd ⟨t,a,e⟩ hc
 refine hn (Nat.eq_of_testBit_eq fun t=>?_);rw[show(1048575:Nat)=2 ^ 20-1 from rfl,Nat.testBit_two_pow_sub_one]
 by_cases a:t<20
 ·rw[hb t a,decide_eq_true a]
 ·rw[decide_eq_false a]
  exact Nat.testBit_lt_two_pow (AC h (Nat.pow_le_pow_right (n:=2) (i:=20) ξ ω))
def K5{a b c d e:Nat}(h:a∈cvs)(hb:b∈cvs)(hc:c∈cvs)(hd:d∈cvs)(he:e∈cvs):∃t,t<20/\∀x∈[a,b,c,d,e],x.testBit t=false:=by
 have two:∀{x y:Nat},x∈cvs->y∈cvs->(x||| y)∈rP:=fun{x y} hx hy=>by
  have:=List.all_eq_true.mp (List.all_eq_true.mp K3 x hx) y hy
  simpa using this
 have lt:∀{x:Nat},x∈cvs->x<2 ^ 20:=fun{x} hx=>by
  have:=List.all_eq_true.mp K4 x hx;exact Nat.blt_eq.mp this
 have h5:=List.all_eq_true.mp (List.all_eq_true.mp (List.all_eq_true.mp iw _ (two h hb)) _ (two hc hd)) e he;have f:((a||| b)||| (c||| d))||| e≠1048575:=fun z=>by
  have:Nat.beq (((a||| b)||| (c||| d))||| e) 1048575=true:=by rw[z];decide
  rw[show Nat.lor (Nat.lor (a||| b) (c||| d)) e=((a||| b)||| (c||| d))||| e from rfl,this] at h5;cases h5
 obtain⟨t,i,g⟩:=miss (Nat.or_lt_two_pow (Nat.or_lt_two_pow (Nat.or_lt_two_pow (lt h) (lt hb)) (Nat.or_lt_two_pow (lt hc) (lt hd))) (lt he)) f;refine⟨t,i,?_⟩;rw[Nat.testBit_or,Nat.testBit_or,Nat.testBit_or,Nat.testBit_or,Bool.or_eq_false_iff,Bool.or_eq_false_iff,Bool.or_eq_false_iff,Bool.or_eq_false_iff] at g;obtain⟨⟨⟨h1,h2⟩,h3,j⟩,l⟩:=g;simp[h1,h2,h3,j,l]
def DZ{b:Ξ}(hs:eC b){p:List Int}(hp:p∈b):p∈six/\p.Sublist p6:=by
 obtain⟨c,d,hr,hb⟩:=hs.2 p hp;have a:p.Sublist p6:=lq _ _ ξ ((nQ p).mp hr) fun y hy=>by
  have:=hb y hy;have:y=0\/y=1\/y=2\/y=3\/y=4\/y=5:=ω
  rcases this with rfl|rfl|rfl|rfl|rfl|rfl<;>decide
 refine⟨?_,a⟩;unfold six;rw[List.mem_filter,zv];exact⟨⟨c,a⟩,decide_eq_true d⟩
def K6{b:Ξ}(h5:b.length<=5)(hs:eC b):∃T∈trp,∀p∈b,¬(dg T).Sublist p:=by
 have ex:∀p∈b,∃c∈cvs,∀t,t<20->c.testBit t=false->¬(dg (trp.getD t 0)).Sublist p:=fun p hp=>by
  obtain⟨e,he,h1⟩:=List.any_eq_true.mp (List.all_eq_true.mp KZ p (DZ hs hp).1);have h2:=List.all_eq_true.mp K0 e he;rw[AI] at h2;refine⟨e.2,by simpa using h2.1,fun t d g j=>?_⟩;have h3:=List.all_eq_true.mp h2.2 t (List.mem_range.mpr d);rw[g,Bool.false_or] at h3;have:(dg (trp.getD t 0)).isSublist (dg e.1)=true:=List.isSublist_iff_sublist.mpr (j.trans (List.isSublist_iff_sublist.mp h1));rw[this] at h3;cases h3
 classical
 let f:Nat->Nat:=fun i=>match h:b[i]? with
  |some p=>(ex p (Al h)).choose
  |none=>15
 have hf:∀i,f i∈cvs:=fun i=>by
  show(match h:b[i]? with|some p=>(ex p (Al h)).choose|none=>15)∈cvs;split
  ·rename_i p h;exact(ex p (Al h)).choose_spec.1
  ·decide
 have hp:∀i p,b[i]?=some p->∀t,t<20->(f i).testBit t=false->¬(dg (trp.getD t 0)).Sublist p:=fun i p e=>by
  have e1:∃h:p∈b,f i=(ex p h).choose:=by
   refine⟨Al e,?_⟩;show(match h:b[i]? with|some p=>(ex p (Al h)).choose|none=>15)=_;split
   ·rename_i q h
    obtain rfl:q=p:=Am (h.symm.trans e)
    rfl
   ·rename_i h;rw[h] at e;cases e
  obtain⟨h,e1⟩:=e1;rw[e1];exact(ex p h).choose_spec.2
 obtain⟨t,d,a⟩:=K5 (hf 0) (hf 1) (hf 2) (hf 3) (hf 4);refine⟨trp.getD t 0,by have:=List.all_eq_true.mp K2 t (List.mem_range.mpr d);simpa using this,fun p l=>?_⟩;obtain⟨i,hi⟩:=List.getElem?_of_mem l;have o:i<5:=AC (List.getElem?_eq_some_iff.mp hi).1 h5;refine hp i p hi t d (a _ ?_);have:i=0\/i=1\/i=2\/i=3\/i=4:=ω
 rcases this with rfl|rfl|rfl|rfl|rfl<;>simp
def K7:∀n,n<19->(trp.any fun T=>(known n).all fun b=>!((dg T).isSublist b))=true/\((known n).all fun b=>b.isSublist p6)=true:=δ
def k19:Ξ:=dd ((known 19).flatMap parts)
def K8:(k19.all fun p=>(k19.all fun q=>!decide (p∈rims q))|| k19.any fun q=>k19.any fun r=>!decide (q=r)&&decide (p∈rims q)&&decide (p∈rims r))=true:=δ
def yj{first a:Int}{p q:List Int}:ren first a p∈rims (ren first a q)↔∃r∈rims q,ren first a r=ren first a p:=by
 rw[hE];unfold ren;rw[Aa];constructor
 ·rintro⟨h1,k,hk,e⟩
  refine⟨q.take k++q.drop (k+1),hE.mpr ⟨h1,k,hk,rfl⟩,?_⟩;rw[e,Ah,List.map_take,List.map_drop]
 ·rintro⟨r,hr,e⟩
  obtain⟨h1,k,hk,rfl⟩:=hE.mp hr;exact⟨h1,k,hk,by rw[<-e,Ah,List.map_take,List.map_drop]⟩
def D0{b pss:Ξ}{first c:Int}(hp:pss.Perm (b.map (ren first c))){x:List Int}:x∈canon pss↔∃y r,r∈b/\y≠[]/\y.Sublist r/\x=ren first c y:=by
 rw[fv];constructor
 ·rintro⟨a,t,d,hs⟩
  obtain⟨r,hr,rfl⟩:=List.mem_map.mp (hp.mem_iff.mp d);unfold ren at hs;obtain⟨y,hy,rfl⟩:=List.sublist_map_iff.mp hs;exact⟨y,r,hr,fun z=>a (by rw[z];rfl),hy,rfl⟩
 ·rintro⟨y,r,hr,a,hs,rfl⟩
  exact⟨fun z=>a (List.map_eq_nil_iff.mp z),ren first c r,hp.mem_iff.mpr (List.mem_map.mpr ⟨r,hr,rfl⟩),hs.map _⟩
def K9{pss:Ξ}{first a:Int}(v:1<=a)(hp:pss.Perm ((known 19).map (ren first a))):fr (canon pss)=[]:=by
 have c:∀{x:List Int},x∈canon pss↔∃y∈k19,x=ren first a y:=fun{x}=>by
  rw[D0 hp];constructor
  ·rintro⟨y,r,hr,g,hs,rfl⟩
   exact⟨y,by unfold k19;rw[fc,List.mem_flatMap];exact⟨r,hr,zv.mpr ⟨g,hs⟩⟩,rfl⟩
  ·rintro⟨y,hy,rfl⟩
   unfold k19 at hy;rw[fc,List.mem_flatMap] at hy;obtain⟨r,hr,hm⟩:=hy;obtain⟨g,hs⟩:=zv.mp hm;exact⟨y,r,hr,g,hs,rfl⟩
 unfold fr dL;rw[List.map_eq_nil_iff,List.filter_eq_nil_iff];intro p f h1;have h1:=of_decide_eq_true h1;obtain⟨b,w,rfl⟩:=c.mp f;obtain⟨q,eq⟩:∃q,cof (ovS (canon pss)) (ren first a b)=[q]:=by
  match hc:cof (ovS (canon pss)) (ren first a b),h1 with
  |[q],_=>exact⟨q,rfl⟩
 have h2:=List.all_eq_true.mp K8 b w;rw[Bool.or_eq_true] at h2;have back:∀{d:List Int},ren first a b∈rims (ren first a d)->b∈rims d:=fun{d} h=>by
  obtain⟨r,hr,e⟩:=yj.mp h;rw[<-qX v e];exact hr
 rcases h2 with h2|h2
 ·obtain⟨hq,hm⟩:=j8.mp (show q∈cof (ovS (canon pss)) (ren first a b) by rw[eq];exact As)
  obtain⟨d,z,rfl⟩:=c.mp hq;have:=List.all_eq_true.mp h2 d z;rw[decide_eq_true (back hm)] at this;cases this
 ·obtain⟨i,A,h3⟩:=List.any_eq_true.mp h2
  obtain⟨j,C,o⟩:=List.any_eq_true.mp h3;rw[AI,AI] at o;obtain⟨⟨n1,n2⟩,l⟩:=o;have n2:=of_decide_eq_true n2;have l:=of_decide_eq_true l;have s:ren first a i∈cof (ovS (canon pss)) (ren first a b):=j8.mpr ⟨c.mpr ⟨i,A,rfl⟩,yj.mpr ⟨b,n2,rfl⟩⟩;have u:ren first a j∈cof (ovS (canon pss)) (ren first a b):=j8.mpr ⟨c.mpr ⟨j,C,rfl⟩,yj.mpr ⟨b,l,rfl⟩⟩;rw[eq] at s u;have e1:ren first a i=q:=by simpa using s
  have e2:ren first a j=q:=by simpa using u
  have:=qX v (e1.trans e2.symm);simp[this] at n1
def pull{b c:Type}{f:b->c}{P:b->Prop}:∀{l:List c},(∀x∈l,∃y,P y/\f y=x)->∃a:List b,a.map f=l/\∀y∈a,P y
 |[],_=>⟨[],rfl,fun y hy=>by cases hy⟩
 |x::l,h=>by
  obtain⟨y,hy,e⟩:=h x As;obtain⟨a,d,g⟩:=pull (l:=l) fun x hx=>h x (Aq _ hx);refine⟨y::a,by rw[Av,e,d],fun z hz=>?_⟩;rcases List.mem_cons.mp hz with e|hz
  ·rw[e];exact hy
  ·exact g z hz
def D4{b pss M:Ξ}{first a:Int}(v:1<=a)(hp:pss.Perm (b.map (ren first a)))(w:∀p∈b,p.Sublist p6){T:Nat}(z:T∈trp)(hm:∀p∈b,¬(dg T).Sublist p)(i:M.Sublist (canon pss)):(tops M).length<=19:=by
 obtain⟨A,c,g⟩:=pull (f:=ren first a) (P:=fun y=>y∈parts p6/\y≠dg T) (l:=tops M) fun x hx=>by
  have o:=(List.mem_filter.mp hx).1;obtain⟨y,r,hr,j,hs,rfl⟩:=(D0 hp).mp (i.subset o);exact⟨y,⟨zv.mpr ⟨j,hs.trans (w r hr)⟩,fun e=>hm r hr (e▸hs)⟩,rfl⟩
 have d:(tops M).Nodup:=(i.nodup (zZ pss)).filter _;rw[<-c] at d;have q:A.Nodup:=by
  unfold List.Nodup at d ⊢;rw[A2] at d;exact d.imp fun{x y} h e=>h (by rw[e])
 have:=j9 q (fun x hx=>(g x hx).1) (fun x hx y hy hs=>?_) z (fun h=>(g _ h).2 rfl)
 ·rw[<-c,Aa];exact this
 ·have s:ren first a x∈tops M:=by rw[<-c];exact List.mem_map.mpr ⟨x,hx,rfl⟩
  have u:ren first a y∈tops M:=by rw[<-c];exact List.mem_map.mpr ⟨y,hy,rfl⟩
  exact qX v (KR s (List.mem_filter.mp u).1 (hs.map _))
def j_{pss M:Ξ}{zs:List Pp}(d:Drawn pss)(h:run (canon pss) zs=some M):(tops M).length<=19:=by
 obtain⟨hw,_,g⟩:=qZ d;have e:=(rE (Cl.of hw) h).2;obtain⟨b,first,i,hb,_,_,a,_,hp⟩:=d;rcases hb with ⟨n,hn,rfl⟩|⟨h5,hs⟩
 ·by_cases f:n=19
  ·subst f
   rw[KQ h (K9 a hp)];have:=JJ pss;omega
  ·obtain⟨h1,h2⟩:=K7 n ω
   obtain⟨T,c,h3⟩:=List.any_eq_true.mp h1;refine D4 a hp (fun p hp=>List.isSublist_iff_sublist.mp (List.all_eq_true.mp h2 p hp)) c (fun p hp hs=>?_) e;have:=List.all_eq_true.mp h3 p hp;rw[List.isSublist_iff_sublist.mpr hs] at this;cases this
 ·obtain⟨T,c,h3⟩:=K6 h5 hs
  exact D4 a hp (fun p hp=>(DZ hs hp).2) c h3 e
abbrev yk:Stmt:=top 31
def Cl.five{L:Ξ}(c:Cl L):∀p∈L,p.length<=5:=fun p hp=>(zI.mp (c.pc p hp)).2.1
section
variable{P:Program}{w:World}{K:Af}{mg:Str->Option Value}{base:Heap}
def D5(K:Af):Sp:=fun vs H Q _=>∃l as pss,vs=[.ref l]/\SqL K H l (as.map V.ref)/\Tps H as pss/\cv pss/\
 ∀D b c H' a zs M bs,Same H H'->H' D=some (.tup [.ref b,.ref c])->H' b=some (.lst (List.map V.ref a))->Prs2 H' a zs->run (canon pss) zs=some M->zs.length<=63->H' c=some (.lst (List.map V.ref bs))->Tps H' bs (tops M)->Q (.ref D) H'
def lC:zq ["web","left","row","free"] ["web"] (zh yk):=⟨rfl,rfl,rfl,δ,rfl,δ,δ⟩
def K_{f fp ff ft fg:Addr}{fd a7 dw cy gE:FuncData}(F:Fun K "pushes" "pushes" yk f fd)(B:Bt mg)(Fp:Fun K "pieces" "pieces" iY fp a7)(bp:Binds K a7 ["web"] [])(mp:mg "pieces"=some (.ref fp))(Gp:FnOk P w K mg base aJ 8 fp a7 ["web"] (lr K))(Ff:Fun K "free_among" "free_among" jZ ff dw)(bf:Binds K dw ["every"] [])(mf:mg "free_among"=some (.ref ff))(Gf:FnOk P w K mg base aJ 2 ff dw ["every"] (ro K))(Ft:Fun K "taken_out" "taken_out" lA ft cy)(bt:Binds K cy ["every","pair"] [])(mt:mg "taken_out"=some (.ref ft))(Fg:Fun K "greatest_of" "greatest_of" lw fg gE)(bg:Binds K gE ["every"] [])(oj:mg "greatest_of"=some (.ref fg))(Gg:FnOk P w K mg base aJ 5 fg gE ["every"] (x5 K)):FnOk P w K mg base aJ 9 f fd ["web"] (D5 K):=by
 have Gt:FnOk P w K mg base aJ 1 ft cy ["every","pair"] (x' K):=DF Ft;refine F.ok lC (fun vs H Q E h=>?_) (fun cdv A outer s H vs Q E hr h=>?_)
 ·obtain⟨l,as,pss,rfl,_⟩:=h;rfl
 ·obtain⟨l,as,pss,rfl,hl,ha,hw,k⟩:=h
  have hr1:Room 1 _:=hr.mono ξ;have C:Room 2 _:=hr.mono ξ;have hr5:Room 5 _:=hr.mono ξ;refine⟨_,zd (zp (i:=1) lC.nd rfl (Or.inl rfl) (zn Gp hr rfl mp Fp.kp bp .nil al (zb (pv 0) zc)))
   (zd (zp (i:=2) lC.nd rfl (Or.inl rfl) (z0 zc))
   (zd (zp (i:=3) lC.nd rfl (Or.inl rfl) (zn Gf C rfl mf Ff.kp bf .nil al (zb (pv 1) zc)))
   (zd (Bo AG (zt uW (zl zj rfl B.len cH (zb (pv 3) zc)) zi (ao _))
    (zd (gN (eU PySem.F.plainAttrs_list PySem.F.slot_list_append PySem.F.type_list_append ig (pv 2) (zb (cd zU (pv 3) zi (fun _ _=>rfl)) zc)))
    (zd (zp (i:=1) lC.nd rfl (Or.inl rfl) (zn Gt hr1 rfl mt Ft.kp bt .nil al (zb (pv 1) (zb (cd zU (pv 3) zi (fun _ _=>rfl)) zc))))
    (zg (zp (i:=3) lC.nd rfl (Or.inl rfl) (zn Gf C rfl mf Ff.kp bf .nil al (zb (pv 1) zc)))))))
   (zg (zu (ei (zb (pv 2) (zb (zn Gg hr5 rfl oj Fg.kp bg .nil al (zb (pv 1) zc)) zc)))))))),?_⟩
  have c0:Cl (canon pss):=Cl.of hw.1;have bj:(canon pss).length<64:=hw.2;refine⟨_,rfl,l,as,pss,rfl,hl,ha,hw,fun e H1 ls s1 _ O v=>⟨zf (by simp),fun a S=>?_⟩⟩;have G:=Same.new (o:=.lst []) S;have U:e≠a:=ze O S;refine⟨_,rfl,e,ls,canon pss,rfl,SqL.of (G _ _ O),G.tps v,c0.five,bj,fun g H2 fs M mv i3 iI=>?_⟩;have W:g≠a:=Ne.symm (ze za mv);refine⟨fun m σ c=>∃(e g:Addr)(ls fs b:List Addr)(L:Ξ)(zs:List Pp),m=L.length/\σ=[some (.ref l),some (.ref e),some (.ref a),some (.ref g)]/\Same H c/\e≠a/\g≠a/\c e=some (.lst (ls.map V.ref))/\Tps c ls L/\c a=some (.lst (b.map V.ref))/\Prs2 c b zs/\c g=some (.lst (fs.map V.ref))/\Prs2 c fs (fr L)/\run (canon pss) zs=some L/\zs.length+L.length<=(canon pss).length,
   ⟨_,e,g,ls,fs,[],canon pss,[],rfl,rfl,(s1.trans G).trans M,U,W,M _ _ (G _ _ O),M.tps (G.tps v),M _ _ za,.nil,i3,iI,rfl,by simp⟩,?_⟩
  have hR0:H a=none:=s1.free S;rintro m σ c ⟨e,g,ls,fs,b,L,zs,rfl,rfl,s3,U,W,hA,i8,hR,X,Y,u,bL,hlen⟩;obtain⟨y,sub⟩:=rE c0 bL;have xp:=sub.length_le;have cP:=u.length;have wU:=X.length;refine⟨_,rfl,g,_,rfl,.inl (SqL.of Y),_,_,rfl,rfl,_,rfl,?_⟩;rw[Aa,cP];cases hfr:fr L with
  |nil=>
   refine aW ⟨_,rfl,_,rfl,e,ls,L,rfl,SqL.of hA,by rw[y.can];exact i8,y.pc,by rw[y.can];omega,fun TD H5 bs p _ tG x=>⟨zf (by simp),fun T hT=>?_⟩⟩;rw[y.can] at x;have d:=Same.new (o:=.tup [.ref a,.ref TD]) hT;exact k T a TD _ b zs L bs ((s3.trans p).trans d) za (d _ _ (p _ _ hR)) ((X.same p).same d) bL ω (d _ _ tG) (d.tps x)
  |cons z r=>
   rw[hfr] at u cP;rw[decide_eq_true (show(0:Int)<(((z::r).length:Nat):Int) by rw[An];omega)];have hz:z∈fr L:=by rw[hfr];exact As
   have hlt:=KP hz;refine bb ⟨_,fun aq H' h=>h,?_⟩;cases u with
   |@cons t _ nz _ ht hfs'=>
   refine⟨_,rfl,.inl ⟨rfl,_,SqL.of hR⟩,_,rfl,g,_,_,_,rfl,rfl,SqL.of Y,zy (j:=0) rfl,a,_,_,rfl,rfl,hR,by rw[Aa];exact zM ω,?_⟩;have nn:∀xs:List V,HO.lst (b.map V.ref)≠.tup xs:=by intro xs z;cases z
   have I:upd c a (.lst (b.map V.ref++[.ref t])) e=some (.lst (ls.map V.ref)):=by rw[ab U];exact hA
   have J:upd c a (.lst (b.map V.ref++[.ref t])) g=some (.lst ((t::nz).map V.ref)):=by rw[ab W];exact Y
   have q:Tps (upd c a (.lst (b.map V.ref++[.ref t]))) ls L:=Tps.upd i8 hR nn;have dQ:Pr2 (upd c a (.lst (b.map V.ref++[.ref t]))) t z:=Pr2.upd ht hR nn;have jt:Prs2 (upd c a (.lst (b.map V.ref++[.ref t]))) (b++[t]) (zs++[z]):=Prs2.snoc (Prs2.upd X hR nn) dQ;have N:upd c a (.lst (b.map V.ref++[.ref t])) a=some (.lst ((b++[t]).map V.ref)):=by rw[za,Ah];rfl
   have s4:Same H (upd c a (.lst (b.map V.ref++[.ref t]))):=s3.then hR0;generalize upd c a (.lst (b.map V.ref++[.ref t]))=H4 at I J q dQ jt N s4;refine⟨_,rfl,_,rfl,g,_,_,_,rfl,rfl,SqL.of J,zy (j:=0) rfl,e,t,ls,L,z,rfl,SqL.of I,q,ω,dQ,fun D H5 bs p bH cz x=>?_⟩;refine⟨_,rfl,D,bs,rem L z,rfl,SqL.of cz,x,(y.rem hz).five,ω,fun D2 H6 ts d gm lI gf=>?_⟩;refine⟨_,hlt,D,D2,bs,ts,b++[t],rem L z,zs++[z],rfl,rfl,(s4.trans p).trans d,Ne.symm (ze N bH),Ne.symm (ze (p _ _ N) gm),d _ _ cz,d.tps x,d _ _ (p _ _ N),(jt.same p).same d,lI,gf,?_,by rw[Ai,List.length_singleton];omega⟩;rw[DX bL,if_pos hz]
end
abbrev rT:Stmt:=top 23
abbrev yl:Stmt:=top 27
abbrev ym:Stmt:=top 29
section
variable{P:Program}{w:World}{K:Af}{mg:Str->Option Value}{base:Heap}
def D8(K:Af):Sp:=fun vs H Q _=>∃l a as pss p,vs=[.ref l,.ref a]/\SqL K H l (as.map V.ref)/\Tps H as pss/\cv pss/\Tp H a p/\p∈canon pss/\∀D H2 bs,Same H H2->H D=none->H2 D=some (.lst (bs.map V.ref))->Tps H2 bs (canon pss)->Q (.ref D) H2
def D9:zq ["web","piece","every"] ["web","piece"] (zh rT):=⟨rfl,rfl,rfl,δ,rfl,δ,δ⟩
def K'{f fp:Addr}{fd b:FuncData}(F:Fun K "pieces_about" "pieces_about" rT f fd)(Fp:Fun K "pieces" "pieces" iY fp b)(o:Binds K b ["web"] [])(q:mg "pieces"=some (.ref fp))(r:FnOk P w K mg base aJ 8 fp b ["web"] (lr K)):FnOk P w K mg base aJ 9 f fd ["web","piece"] (D8 K):=by
 refine F.ok D9 (fun vs H Q E h=>?_) (fun cdv A outer s H vs Q E hr h=>?_)
 ·obtain⟨l,a,as,pss,p,rfl,_⟩:=h;rfl
 ·obtain⟨l,a,as,pss,p,rfl,hl,e,hw,g,hp,k⟩:=h
  have j:=hr.units;refine⟨_,zd (zp (i:=2) D9.nd rfl (Or.inl rfl) (zn r hr rfl q Fp.kp o .nil al (zb (pv 0) zc)))
   (zd (cY (zt (Cz (in1_units j)) (pv 1) (pv 2) (by with_unfolding_all rfl)) t8 zE) (zg (zu (pv 2)))),?_⟩
  refine⟨_,rfl,l,as,pss,rfl,hl,e,hw,fun D H2 bs sm d c hb=>⟨_,rfl,_,rfl,a,D,p,bs,canon pss,rfl,rfl,sm.tp g,SqL.of c,hb,_,rfl,?_⟩⟩;rw[if_pos rfl,decide_eq_true hp];exact aW ⟨_,rfl,k D H2 bs sm d c hb⟩
abbrev frL(pss:Ξ):List Pp:=dL (ovS (canon pss)) (canon pss)
def La(pss:Ξ):(frL pss).length<=(canon pss).length:=by unfold frL dL;rw[Aa];exact List.length_filter_le _ _
def og(K:Af):Sp:=fun vs H Q _=>∃l as pss,vs=[.ref l]/\SqL K H l (as.map V.ref)/\Tps H as pss/\cv pss/\∀D H' ts,Same H H'->H D=none->H' D=some (.lst (ts.map V.ref))->Prs2 H' ts (frL pss)->Q (.ref D) H'
def yn:zq ["web"] ["web"] (zh yl):=⟨rfl,rfl,rfl,δ,rfl,δ,δ⟩
def Lb{f fp b:Addr}{fd c d:FuncData}(F:Fun K "free_pairs" "free_pairs" yl f fd)(Fp:Fun K "pieces" "pieces" iY fp c)(u:Binds K c ["web"] [])(v:mg "pieces"=some (.ref fp))(C:FnOk P w K mg base aJ 8 fp c ["web"] (lr K))(Ff:Fun K "free_among" "free_among" jZ b d)(x:Binds K d ["every"] [])(y:mg "free_among"=some (.ref b))(G:FnOk P w K mg base aJ 2 b d ["every"] (ro K)):FnOk P w K mg base aJ 9 f fd ["web"] (og K):=by
 refine F.ok yn (fun vs H Q E h=>?_) (fun cdv A outer s H vs Q E hr h=>?_)
 ·obtain⟨l,as,pss,rfl,_⟩:=h;rfl
 ·obtain⟨l,as,pss,rfl,hl,r,hw,k⟩:=h
  have a:Room 2 _:=hr.mono ξ;refine⟨_,zg (zu (zn G a rfl y Ff.kp x .nil al (zb (zn C hr rfl v Fp.kp u .nil al (zb (pv 0) zc)) zc))),?_⟩;exact⟨_,rfl,l,as,pss,rfl,hl,r,hw,fun D H1 bs e I g hb=>⟨D,bs,canon pss,rfl,SqL.of g,hb,fun p hp=>(hH (fun q hq=>iv hw.1 hq) hp).2.2,hw.2,fun z H2 ts i j o hp=>k z H2 ts (e.trans i) (e.free j) o hp⟩⟩
def yo:zq ["web","piece","every","pair"] ["web","piece"] (zh ym):=⟨rfl,rfl,rfl,δ,rfl,δ,δ⟩
def D_(K:Af):Sp:=fun vs H Q _=>∃l a as pss z,vs=[.ref l,.ref a]/\SqL K H l (as.map V.ref)/\Tps H as pss/\cv pss/\z∈frL pss/\Tp H a z.1/\∀D H' bs,Same H H'->H D=none->H' D=some (.lst (bs.map V.ref))->Tps H' bs (tops (cA pss z))->Q (.ref D) H'
def Lc{pss:Ξ}{y z:Pp}(hy:y∈frL pss)(hz:z∈frL pss)(e:y.1=z.1):y=z:=by
 unfold frL dL at hy hz;obtain⟨p,_,rfl⟩:=List.mem_map.mp hy;obtain⟨q,_,rfl⟩:=List.mem_map.mp hz;have:p=q:=e;rw[this]
def Ld{f fa L M N:Addr}{fd O S T U:FuncData}(F:Fun K "pushed" "pushed" ym f fd)(Fa:Fun K "pieces_about" "pieces_about" rT fa O)(ba:Binds K O ["web","piece"] [])(ma:mg "pieces_about"=some (.ref fa))(Ga:FnOk P w K mg base aJ 9 fa O ["web","piece"] (D8 K))(Ff:Fun K "free_among" "free_among" jZ L S)(bf:Binds K S ["every"] [])(mf:mg "free_among"=some (.ref L))(Gf:FnOk P w K mg base aJ 2 L S ["every"] (ro K))(Fg:Fun K "greatest_of" "greatest_of" lw M T)(bg:Binds K T ["every"] [])(oj:mg "greatest_of"=some (.ref M))(Gg:FnOk P w K mg base aJ 5 M T ["every"] (x5 K))(Ft:Fun K "taken_out" "taken_out" lA N U)(bt:Binds K U ["every","pair"] [])(mt:mg "taken_out"=some (.ref N)):FnOk P w K mg base aJ 10 f fd ["web","piece"] (D_ K):=by
 have Gt:FnOk P w K mg base aJ 1 N U ["every","pair"] (x' K):=DF Ft;refine F.ok yo (fun vs H Q E h=>?_) (fun cdv A outer s H vs Q E hr h=>?_)
 ·obtain⟨l,a,as,pss,z,rfl,_⟩:=h;rfl
 ·obtain⟨l,a,as,pss,z,rfl,hl,ht,hw,hz,ha,k⟩:=h
  have aD:=hr.units;have C:Room 1 _:=hr.mono ξ;have G:Room 2 _:=hr.mono ξ;have I:Room 5 _:=hr.mono ξ;refine⟨_,zd (zp (i:=2) yo.nd rfl (Or.inl rfl) (zn Ga hr rfl ma Fa.kp ba .nil al (zb (pv 0) (zb (pv 1) zc))))
   (zd (zK AG rfl (zr (zn Gf G rfl mf Ff.kp bf .nil al (zb (pv 2) zc))) (zk (i:=3) yo.nd rfl (Or.inl rfl))
    (zg (cY (zt (HV aD) (cd eT (pv 3) zi (fun _ _=>rfl)) (pv 1) (ao _)) (zg (zu (zn Gg I rfl oj Fg.kp bg .nil al (zb (zn Gt C rfl mt Ft.kp bt .nil al (zb (pv 2) (zb (pv 3) zc))) zc)))) zE)))
   t8),?_⟩
  have hp:=(yi (fun q hq=>iv hw.1 hq) hz).1;refine⟨_,rfl,_,rfl,l,a,as,pss,z.1,rfl,hl,ht,hw,ha,hp,fun W H1 es X wX Y kT=>?_⟩;refine⟨_,rfl,W,es,canon pss,rfl,SqL.of Y,kT,(fun p hp=>(hH (fun q hq=>iv hw.1 hq) hp).2.2),hw.2,fun FD H2 ts g iJ pK aN=>⟨FD,rfl,⟨_,SqL.of pK⟩,?_⟩⟩;have J:=aN.length;refine zC (K:=K) (a:=FD) (xs:=ts.map V.ref) (fun i σ r=>∃(v:Option V),σ=[some (.ref l),some (.ref a),some (.ref W),v]/\r=H2/\∀y∈(frL pss).take i,y≠z)
   ⟨none,rfl,rfl,(fun y hy=>by rw[List.take_zero] at hy;cases hy)⟩ (fun i σ r _ ⟨_,_,e,_⟩=>by rw[e];exact SqL.of pK) ?_ ?_
  ·rintro i x σ r hx ⟨v,rfl,rfl,o⟩
   obtain⟨t,et,rfl⟩:=zD hx;obtain⟨y,ey,b,c,i5,hb,hc⟩:=aN.get et;have tW:=Al ey;refine⟨_,rfl,t,_,0,_,rfl,rfl,SqT.of i5,zy (j:=0) rfl,_,rfl,.inl ⟨b,a,y.1,z.1,rfl,rfl,hb,(X.trans g).tp ha,_,rfl,?_⟩⟩;rw[if_neg ξ]
   by_cases d:y.1=z.1
   ·obtain rfl:=Lc tW hz d
    rw[decide_eq_true rfl];refine bb ⟨_,rfl,_,rfl,W,t,es,canon pss,y,rfl,SqL.of (g _ _ Y),g.tps kT,by have:=hw.2;omega,⟨b,c,i5,hb,hc⟩,fun LD H4 bs aC hL0 dz eI=>?_⟩;refine⟨LD,bs,cA pss y,rfl,SqL.of dz,by rw[rB (fun q hq=>iv hw.1 hq) hz];exact eI,(fun p hp=>iv hw.1 (List.mem_filter.mp hp).1),?_,fun D H5 cs cW bH cz hcs=>?_⟩
    ·rw[rB (fun q hq=>iv hw.1 hq) hz]
     exact Nat.lt_of_le_of_lt (List.length_filter_le _ _) hw.2
    ·rw[rB (fun q hq=>iv hw.1 hq) hz] at hcs
     have s:=((X.trans g).trans aC);exact k D H5 cs (s.trans cW) (s.free bH) cz hcs
   ·rw[decide_eq_false d]
    refine aW ⟨_,rfl,rfl,fun u hu=>?_⟩;rw[AF ey] at hu;rcases List.mem_append.mp hu with h|h
    ·exact o u h
    ·have:u=y:=by simpa using h
     rw[this];exact fun e=>d (by rw[e])
  ·rintro σ r ⟨v,rfl,rfl,o⟩
   rw[Aa,J,take_all] at o;exact(o z hz rfl).elim
end
end K50
end
section
namespace L2
open PySem PySem.Spec PyProof.Rows
section
variable{X:Cx}
def Ea{aa:Ψ}{σ:St}{H:Hp}{s:Shared}{l:Addr}{b:List Int}(I:Inv X aa σ H s)(hl:SqL X.K H l (b.map V.int)):∃a,Reads s.heap (.ref l) (.list (b.map AV)) a:=by
 obtain⟨d,r,p,_⟩:=I.list hl;obtain⟨o,c,hc,n,hd⟩:=p.isList;exact⟨_,.list c hc hd ((PySem.W.ke_carried (intsAre_of r)).reads s.heap)⟩
def Eb(a:List Int):SeqAt.shaped (.list (a.map AV))=true:=by
 simp[SeqAt.shaped,PyData.canLay0,PySem.W.ke_canLayAll0,PyData.depth,PySem.W.ke_depthAll]
def Ec(a:List Int):(Shape.list .int).has (.list (a.map AV))=true:=by simp[Shape.has]
end
end L2
end
section
namespace K50
open K1
open PySem L2 STb
abbrev oh:Stmt:=top 21
abbrev yp:Stmt:=top 22
def rV:A5 "max"=some (.builtin "max"):=δ
def Ed:A5 "sum"=some (.builtin "sum"):=δ
abbrev Ee(K:Af):TE:=iO (x_ K) (cD (am 0) bB)
section
variable{P:Program}{w:World}{K:Af}{mg:Str->Option Value}{base:Heap}
def Le{H2:Hp}{L D:Addr}{as:List Addr}{kn:Ξ}{Q:VK}(hl:SqL K H2 L (as.map V.ref))(c:Tps H2 as kn)(hz:kn.length<=1000)(d:H2 D=none)(k:∀b,Same H2 b->b D=some (.lst ((lens kn).map V.int))->Q (.ref D) b):cg (dn K L) (cn 0) ce (Ee K) [none] H2 D Q:=by
 have g:=c.length;refine zH (xs:=as.map V.ref) (fun j σ ys b=>∃v:Option V,σ=[v]/\Same H2 b/\b D=some (.lst ys)/\ys=(lens (kn.take j)).map V.int) ?_ ?_ ?_ ?_
 ·exact⟨none,rfl,Same.new d,za,rfl⟩
 ·rintro j σ ys b ⟨v,rfl,sm,a,rfl⟩
  exact sm.seq hl
 ·rintro j σ ys b x hx e hy ⟨v,rfl,sm,a,rfl⟩
  obtain⟨o,f,rfl⟩:=zD hx;obtain⟨p,ep,hp⟩:=c.get f;have hn:(as.map V.ref).length<=sizeLine:=by rw[Aa];exact zf ω
  refine cR ?_;refine⟨_,rfl,o,_,rfl,.inr (SqT.of (sm.tp hp)),bx hn e hy a ⟨_,rfl,sm.then d,za,?_⟩⟩;unfold lens;rw[AF ep,Ah,Ah,Aa]
  rfl
 ·rintro σ ys b ⟨v,rfl,sm,a,rfl⟩
  rw[Aa,g,Ax (Ag _)] at a;exact k b sm a
def Lf{kn:Ξ}{M:Int}(h:M∈lens kn):0<=M:=by
 obtain⟨p,_,rfl⟩:=List.mem_map.mp h;omega
def Lg{kn:Ξ}(h:lens kn=[]):(0:Int)=(hiN kn:Int):=by
 have:kn=[]:=List.map_eq_nil_iff.mp h;rw[this];rfl
end
abbrev ka(K:Af):TE:=BS K "list" zlO (am 1) (cD (cr (fX fun i j=>.int (i+j)) (am 0) (tC (.int 1))) bB)
section
variable{P:Program}{w:World}{K:Af}{mg:Str->Option Value}{base:Heap}
def Lh{H2:Hp}{L D:Addr}{kn:Ξ}{n:Nat}{Q:VK}(hl:H2 L=some (.lst ((lens kn).map V.int)))(hz:n<=1000)(d:H2 D=none)(k:∀b,Same H2 b->b D=some (.lst (((AB n).map (fm kn)).map V.int))->Q (.ref D) b):cg (eN 0 n) (cn 0) ce (ka K) [none,some (.ref L)] H2 D Q:=by
 refine pU (fun j σ ys b=>∃v:Option V,σ=[v,some (.ref L)]/\Same H2 b/\b D=some (.lst ys)/\ys=(((AB n).map (fm kn)).take j).map V.int) ?_ ?_ ?_
 ·exact⟨none,rfl,Same.new d,za,rfl⟩
 ·rintro j σ ys b c hy ⟨v,rfl,sm,a,rfl⟩
  have e:((AB n).map (fm kn))[j]?=some (fm kn j):=by rw[Ak,List.getElem?_range c];rfl
  refine cR ?_;refine⟨_,rfl,.inl ⟨rfl,_,SqL.of (sm _ _ hl)⟩,_,rfl,_,_,rfl,rfl,L,lens kn,_,rfl,rfl,sm _ _ hl,?_⟩;rw[show(0:Int)+((j:Nat):Int)+1=((j:Nat):Int)+1 from ω,Ky];exact bx (zf ω) c hy a ⟨_,rfl,sm.then d,za,by rw[AF e,Ah];rfl⟩
 ·rintro σ ys b ⟨v,rfl,sm,a,rfl⟩
  rw[Ax (by simp)] at a;exact k b sm a
def Ef(K:Af):Sp:=fun vs H Q _=>∃l as pss,vs=[.ref l]/\SqL K H l (as.map V.ref)/\Tps H as pss/\cv pss/\∀D H2,Same H H2->H D=none->H2 D=some (.lst ((c' (canon pss)).map V.int))->Q (.ref D) H2
def Eg:zq ["web","lengths"] ["web"] (zh oh):=⟨rfl,rfl,rfl,δ,rfl,δ,δ⟩
def gz{pss:Ξ}(hw:bO pss=true):∀p∈canon pss,p.length<=5:=fun p hp=>by
 obtain⟨_,a,_,_⟩:=lm hw;obtain⟨q,hq,hx⟩:=List.mem_flatMap.mp (zB.mp hp);exact(zI.mp (nU (a q hq) hx)).2.1
def Li{f fp:Addr}{fd d:FuncData}(F:Fun K "counts" "counts" oh f fd)(B:Bt mg)(G:mg "max"=none)(Fp:Fun K "pieces" "pieces" iY fp d)(I:Binds K d ["web"] [])(J:mg "pieces"=some (.ref fp))(O:FnOk P w K mg base aJ 8 fp d ["web"] (lr K)):FnOk P w K mg base aJ 9 f fd ["web"] (Ef K):=by
 refine F.ok Eg (fun vs H Q E h=>?_) (fun cdv A outer s H vs Q E hr h=>?_)
 ·obtain⟨l,as,pss,rfl,_⟩:=h;rfl
 ·obtain⟨l,as,pss,rfl,hl,z,hw,k⟩:=h
  obtain⟨_,_,_,T⟩:=lm hw.1;have h5:=DM (gz hw.1);refine⟨_,zd (zp (i:=1) Eg.nd rfl (Or.inr rfl) (zw ["web","lengths"] ["piece"] [none] (zr (zn O hr rfl J Fp.kp I .nil al (zb (pv 0) zc))) (fun a C s₀ H₀ ex=>zk (i:=0) (cF ["piece"]) rfl (Or.inl rfl))
    (fun a C s₀ H₀ ex=>eX) (fun a C s₀ H₀ ex=>zl zj rfl B.len cH (zb (pv 0) zc)) (hfr:=c_ δ) (te:=Ee K)))
   (zg (zu (zw ["web","lengths"] ["k","lengths"] [none,some 1] (l' rfl B.range (zb (Kv rfl G rV (zb (pv 1) zc) zi rfl) zc)) (fun a C s₀ H₀ ex=>zk (i:=0) (cF ["k","lengths"]) rfl (Or.inl rfl))
    (fun a C s₀ H₀ ex=>eX) (fun a C s₀ H₀ ex=>eU PySem.F.plainAttrs_list PySem.F.slot_list_count PySem.F.type_list_count Kn (pv 1) (zb (zx eR (pv 0) zi) zc)) (hfr:=ci (zh oh) δ) (te:=ka K)))),?_⟩
  refine⟨_,rfl,l,as,pss,rfl,hl,z,hw,fun L H2 bs sm S e hb=>⟨L,rfl,⟨_,SqL.of e⟩,fun D r=>zF (Le (SqL.of e) hb (by rw[zY];omega) r fun q g b=>?_)⟩⟩;have fin:∀M:Int,M=(hiN (canon pss):Int)->∃j:Int,[V.int M]=[V.int j]/\-(2 ^ 62)<=j/\j<2 ^ 62/\∀c,q c=none->cg (eN 0 j.toNat) (cn 0) ce (ka K) [none,some (.ref D)] q c Q:=by
   rintro M rfl;refine⟨_,rfl,ω,ω,fun c o=>Lh b ω o fun N u v=>k c N ((sm.trans g).trans u) (sm.free (g.free o)) v⟩
  refine⟨_,rfl,D,lens (canon pss),_,rfl,rfl,SqL.of b,fun x=>?_,fun M p y=>?_⟩
  ·exact fin 0 (Lg x)
  ·exact fin M (Kx (Lf p) (.inr p) y)
def yq(K:Af):Sp:=fun vs H Q _=>∃l as pss,vs=[.ref l]/\SqL K H l (as.map V.ref)/\Tps H as pss/\cv pss/\∀H2,Same H H2->Q (.int (fo (c' (canon pss)))) H2
def Eh:zq ["web","told"] ["web"] (zh yp):=⟨rfl,rfl,rfl,δ,rfl,δ,δ⟩
def Ei(a:List Int)(lo:Option Int)(b:lo=none\/lo=some 1)(h:a.length<=5):(gu a lo none (some 2)).length<=sizeLine:=by
 refine Kw a _ _ _ (zf ?_);have:∀n,n<=5->(sliceRange (AW none none (some 2) n).fst (AW none none (some 2) n).snd.fst (AW none none (some 2) n).snd.snd).length<=100000/\(sliceRange (AW (some 1) none (some 2) n).fst (AW (some 1) none (some 2) n).snd.fst (AW (some 1) none (some 2) n).snd.snd).length<=100000:=δ
 rcases b with rfl|rfl
 ·exact(this _ h).1
 ·exact(this _ h).2
def Lj{f b:Addr}{fd c:FuncData}(F:Fun K "balance" "balance" yp f fd)(bs:mg "sum"=none)(Fc:Fun K "counts" "counts" oh b c)(q:Binds K c ["web"] [])(r:mg "counts"=some (.ref b))(u:FnOk P w K mg base aJ 9 b c ["web"] (Ef K)):FnOk P w K mg base aJ 10 f fd ["web"] (yq K):=by
 refine F.ok Eh (fun vs H Q E h=>?_) (fun cdv A outer s H vs Q E hr h=>?_)
 ·obtain⟨l,as,pss,rfl,_⟩:=h;rfl
 ·obtain⟨l,as,pss,rfl,hl,p,hw,k⟩:=h
  have h5:=DM (gz hw.1);have a:(c' (canon pss)).length<=5:=by unfold c';simpa using h5
  refine⟨_,zd (zp (i:=1) Eh.nd rfl (Or.inl rfl) (zn u hr rfl r Fc.kp q .nil al (zb (pv 0) zc)))
   (zg (zu (zx jn (zl (DH rfl) rfl bs Ed (zb (DL (pv 1) ia ia (ic zi)) zc)) (zl (DH rfl) rfl bs Ed (zb (DL (pv 1) (ic zi) ia (ic zi)) zc))))),?_⟩
  refine⟨_,rfl,l,as,pss,rfl,hl,p,hw,fun T H2 sm v d=>?_⟩;refine⟨_,rfl,_,rfl,T,_,rfl,SqL.of d,ξ,Ei _ _ (.inl rfl) a,fun g e=>⟨g,_,rfl,SqL.of za,?_⟩⟩;refine⟨_,rfl,_,rfl,_,rfl,T,_,rfl,SqL.of (Same.new e _ _ d),ξ,Ei _ _ (.inr rfl) a,fun p2 j=>⟨p2,_,rfl,SqL.of za,_,_,rfl,rfl,?_⟩⟩;have:=k _ ((sm.trans (Same.new e)).trans (Same.new (o:=.lst ((gu (c' (canon pss)) (some 1) none (some 2)).map V.int)) j));rw[<-Kz _ a] at this;exact this
end
end K50
end
section
namespace L2
open PySem PySem.Spec PyProof.Rows
section
variable{X:Cx}{scope:Scope}{N':List Str}{av:List (Option Nat)}{tg iter bJ:Expr}{aZ:List Expr}{wi:TI}{g:TG}{tc:TT}{te:TE}{pos:Pos}
def Lk{i:Nat}{x:Str}{aX w:Pos}(hc:X.calm=true)(hk:scope.kind=.function)(F:∀y∈scope.names,y.2=.cell->scope.names.lookup y.1=some .cell)(O:∀y∈scope.names,y.2=.free->scope.names.lookup y.1=some .free)(P:∀y∈scope.names,y.2=.local->scope.names.lookup y.1=some .local)(hfr:∀y∈scope.names,y.2=.free->X.env.kindOf y.1=some .cell\/X.env.kindOf y.1=some .free)(Q:mZ X.N N' av scope)(hi:PI X tg iter wi)(S:∀d C s₀ H₀ ex,PG (cxD X scope N' d C s₀ H₀ ex) tg g)(T:∀d C s₀ H₀ ex,io (cxD X scope N' d C s₀ H₀ ex) aZ tc)(he:∀d C s₀ H₀ ex,PE (cxD X scope N' d C s₀ H₀ ex) bJ te)(hs:∀x,foldedSetIterable iter X.env x=pure x)(U:X.N.Nodup)(p:X.N[i]?=some x)(hx:Loc X.env.scope x)(hf:X.fn x=true\/X.env.scope.names.lookup x=some .local)(W:swapsWith (.ListComp bJ [⟨tg,iter,aZ,0⟩] scope pos) (some (.Name x aX)) w.line X.env=pure true):PS X (.Assign [.Name x aX] (.ListComp bJ [⟨tg,iter,aZ,0⟩] scope pos) w) (hZ (jz wi av g tc te) (cn i)):=by
 intro aa s σ H D I h;rw[exec_Assign_Name_used _ _ _ _ W];refine Ab (wpAny_standAt (Ab ?_));show wpAny _ X.A (do let _ <-comprehension (.ListComp bJ [⟨tg,iter,aZ,0⟩] scope pos) scope X.env _ (newList []) (firstAsync [⟨tg,iter,aZ,0⟩]) (firstIter [⟨tg,iter,aZ,0⟩] X.env) (some (assign (.Name x aX) X.env))) _ _ s;refine Ab (wpAny_mono (Ci (use:=some (assign (.Name x aX) X.env)) (R:=fun _ s'=>SP X aa D .next s') hc hk F O P hfr Q hi S T he hs I h fun E C H' r f L q=>?_) (fun _ s' hq=>Ac (Ac hq)) fun _ _ e=>e);show wpAny _ X.A (assign (.Name x aX) X.env (.ref E)) _ _ r;refine wpAny_assign_Name (A_ (v:=.ref E) (L.back r.heap (Heap.SameBut.refl _ _)) U p hx rfl (fun G I5 ⟨a,l,J⟩=>?_) hf);have M:C≠a:=by
  rcases J with e|e
  ·rw[e];exact L.nl
  ·exact fun z=>L.nc x a e z.symm
 obtain⟨m,hn⟩:=L.ns;refine⟨m,hn.sameBut l M,fun h' j=>⟨_,H',?_,q⟩⟩;refine I5.call' (s':={G with heap:=h'}) (ch:=[C]) rfl ⟨fun b o q n hb hx=>?_,fun b o q n hb hx=>?_,fun b o q n hx=>n,fun b o q hx=>?_,fun b xs q=>q,fun b o u q=>q,fun b ps q=>⟨#[],by simpa using q⟩⟩ ?_ I5.bare fun b hb=>?_
 ·exact(j.2 b (by simpa using hx)).trans q
 ·exact⟨o.slots,(j.2 b (by simpa using hx)).trans q⟩
 ·exact⟨o,(j.2 b (by simpa using hx)).trans q⟩
 ·intro b u e
  refine(I5.hok b u e).stay (fun c v hc q=>(j.2 c ?_).trans q) (fun _ q=>q) fun _ _ q=>q;rintro rfl;rcases hc with z|z
  ·rw[<-z,L.no] at e;cases e
  ·rw[L.no] at z;cases z
 ·have e:b=C:=by simpa using hb
  subst e;exact⟨.inr L.far,L.nl,L.nc,L.np⟩
end
end L2
end
section
namespace K50
open K1
open PySem L2 STb
abbrev om:Stmt:=top 24
abbrev rW:Stmt:=top 25
def zhm(d:Addr)(H H2:Hp):Prop:=∀b u,b≠d->H b=some u->H2 b=some u
def bI(nm:Int->Int)(l:List Int):List (Key×V):=l.map fun p=>(Sum.inl p,V.int (nm p))
def Ll(nm:Int->Int){l:List Int}(h:l.Nodup):((bI nm l).map (·.1)).Nodup:=by
 unfold bI;rw[Ap];exact List.pairwise_map.mpr (h.imp fun a e=>a (by simpa using e))
def yr(nm:Int->Int){l:List Int}(h:l.Nodup){p:Int}(hp:p∈l):aU (bI nm l) (Sum.inl p)=some (V.int (nm p)):=
 Ds (Ll nm h) (List.mem_map.mpr ⟨p,hp,rfl⟩)
def Ej(nm:Int->Int){l:List Int}{p:Int}(h:p∉l):putK (bI nm l) (Sum.inl p) (V.int (nm p))=bI nm (l++[p]):=by
 rw[BU _ (Dt fun kv hk e=>?_)]
 ·unfold bI;rw[Ah];rfl
 ·obtain⟨q,hq,rfl⟩:=List.mem_map.mp hk
  have:q=p:=by simpa using e
  exact h (this▸hq)
section
variable{P:Program}{w:World}{K:Af}{mg:Str->Option Value}{base:Heap}
def Ek:Sp:=fun vs H Q _=>∃d new a nm l,vs=[.ref d,.int new,.int a]/\H d=some (.dK (bI nm l))/\l.Nodup/\l.length<=1000/\∀T H2,zhm d H H2->H T=none->H2 T=some (.dK (bI (fun p=>if nm p=a then new else nm p) l))->Q (.ref T) H2
def yt:zq ["names","new","old","told","point"] ["names","new","old"] (zh rW):=⟨rfl,rfl,rfl,δ,rfl,δ,δ⟩
def Lm{f:Addr}{fd:FuncData}(F:Fun K "renamed" "renamed" rW f fd):FnOk P w K mg base aJ 1 f fd ["names","new","old"] Ek:=by
 refine F.ok yt (fun vs H Q E h=>?_) (fun cdv A outer s H vs Q E hr h=>?_)
 ·obtain⟨d,new,a,nm,l,rfl,_⟩:=h;rfl
 ·obtain⟨d,new,a,nm,l,rfl,hd,hn,hl,k⟩:=h
  have hu:=gY hr;refine⟨_,zd (zp (i:=3) yt.nd rfl (Or.inl rfl) pL)
   (zd (zK AG rfl (Dq (pv 0)) (zk (i:=4) yt.nd rfl (Or.inl rfl))
    (zg (ik hu (pv 3) (pv 4) (F4 (zt gU (zP hu (pv 0) (pv 4) (fun _ _=>rfl)) (pv 2) (ao _)) (pv 1) (zP hu (pv 0) (pv 4) (fun _ _=>rfl))) rfl)))
   (zg (zu (pv 3)))),?_⟩
  intro T z;have I:d≠T:=ze hd z;have L:upd H T (.dK []) d=some (.dK (bI nm l)):=by rw[ab I];exact hd
  refine⟨_,rfl,d,_,rfl,L,fun o=>Dr (fun i σ H2=>∃v:Option V,σ=[some (.ref d),some (.int new),some (.int a),some (.ref T),v]/\zhm d H H2/\H2 d=some (.frz o (.dK (bI nm l)))/\H2 T=some (.dK (bI (fun p=>if nm p=a then new else nm p) (l.take i))))
   ⟨none,rfl,fun b u hb e=>by rw[ab hb,ab (ze e z)];exact e,za,by rw[ab I.symm];exact za⟩ (fun i σ H2 _ ⟨_,_,_,h,_⟩=>h) ?_ ?_⟩
  ·rintro i kv σ H2 C ⟨v,rfl,D,G,j⟩
   have r:(bI nm l).length=l.length:=by unfold bI;rw[Aa]
   have hi:i<l.length:=by rw[<-r];exact(List.getElem?_eq_some_iff.mp C).1
   have x:l[i]?=some l[i]:=Ae hi;have M:kv=(Sum.inl l[i],V.int (nm l[i])):=by
    have:(bI nm l)[i]?=some (Sum.inl l[i],V.int (nm l[i])):=by unfold bI;rw[Ak,x];rfl
    rw[this] at C;exact(Am C).symm
   subst M;have J:l[i]∈l:=A9 hi;generalize l[i]=q at x J;have g:DGet H2 d (kV (Sum.inl q)) (some (V.int (nm q))):=.inl ⟨_,Sum.inl q,.inr ⟨o,G⟩,rfl,(yr nm hn J).symm⟩;have N:q∉l.take i:=fun hm=>by
    have:=hn;rw[<-List.take_append_drop i l,List.drop_eq_getElem_cons hi,AU] at this;refine this.2.2 q hm q ?_ rfl;have:l[i]=q:=by rw[Ae hi] at x;exact Am x
    rw[this];exact As
   have y:∀(c:Int),c=(if nm q=a then new else nm q)->putK (bI (fun p=>if nm p=a then new else nm p) (l.take i)) (Sum.inl q) (V.int c)=bI (fun p=>if nm p=a then new else nm p) (l.take (i+1)):=by
    rintro c rfl;rw[AF x];exact Ej _ N
   have fin:∀(c:Int),c=(if nm q=a then new else nm q)->∃v:Option V,[some (V.ref d),some (.int new),some (.int a),some (.ref T),some (kV (Sum.inl q))]=[some (V.ref d),some (.int new),some (.int a),some (.ref T),v]/\zhm d H (upd H2 T (.dK (putK (bI (fun p=>if nm p=a then new else nm p) (l.take i)) (Sum.inl q) (V.int c))))/\
     upd H2 T (.dK (putK (bI (fun p=>if nm p=a then new else nm p) (l.take i)) (Sum.inl q) (V.int c))) d=some (.frz o (.dK (bI nm l)))/\upd H2 T (.dK (putK (bI (fun p=>if nm p=a then new else nm p) (l.take i)) (Sum.inl q) (V.int c))) T=some (.dK (bI (fun p=>if nm p=a then new else nm p) (l.take (i+1)))):=by
    intro c hc;refine⟨_,rfl,fun b u hb e=>?_,?_,?_⟩
    ·rw[ab (ze e z)];exact D b u hb e
    ·rw[ab I];exact G
    ·rw[za,y c hc]
   have hz:(bI (fun p=>if nm p=a then new else nm p) (l.take i)).length<sizeLine:=cu (by unfold bI;rw[Aa,Ay];omega);refine⟨_,rfl,_,rfl,d,_,rfl,g,_,rfl,rfl,_,rfl,?_⟩;refine dr (fun h1=>?_) (fun h1=>?_)
   ·have:nm q=a:=by have:=of_decide_eq_true h1;injection this
    exact⟨_,rfl,_,rfl,_,rfl,T,_,rfl,DPut.k j hz,fin new (by rw[if_pos this])⟩
   ·have:¬nm q=a:=fun e=>by rw[e] at h1;simp at h1
    exact⟨_,rfl,_,rfl,d,_,rfl,g,_,rfl,_,rfl,T,_,rfl,DPut.k j hz,fin (nm q) (by rw[if_neg this])⟩
  ·rintro σ H2 ⟨v,rfl,D,G,j⟩
   rw[show(bI nm l).length=l.length by unfold bI;rw[Aa],Ax (Ag _)] at j;exact⟨_,rfl,k T H2 D z j⟩
end
def Ill(H:Hp)(ls:List Addr)(b:Ξ):Prop:=ls.length=b.length/\∀(j:Nat) a l,ls[j]?=some a->b[j]?=some l->H a=some (.lst (l.map V.int))
def Ill.same{H H2:Hp}{ls:List Addr}{b:Ξ}(h:Ill H ls b)(s:Same H H2):Ill H2 ls b:=⟨h.1,fun j a l c hl=>s _ _ (h.2 j a l c hl)⟩
def Ill.get{H:Hp}{ls:List Addr}{b:Ξ}(h:Ill H ls b){j:Nat}{a:Addr}(e:ls[j]?=some a):∃l,b[j]?=some l/\H a=some (.lst (l.map V.int)):=by
 have c:j<b.length:=by rw[<-h.1];exact(List.getElem?_eq_some_iff.mp e).1
 exact⟨_,Ae c,h.2 j a _ e (Ae c)⟩
def Ill.put{H:Hp}{ls:List Addr}{f:Ξ}(h:Ill H ls f){b:Addr}{o:HO}(hb:b∉ls):Ill (upd H b o) ls f:=
 ⟨h.1,fun j a l d hl=>by
  have c:a≠b:=fun e=>hb (by rw[<-e];exact Al d);rw[ab c];exact h.2 j a l d hl⟩
def dF(ks:List Int)(ls:List Addr):List (Key×V):=(ks.zip ls).map fun x=>(Sum.inl x.1,V.ref x.2)
def Ln{ks:List Int}{ls:List Addr}(hl:ls.length=ks.length):(dF ks ls).map (·.1)=ks.map Sum.inl:=by
 unfold dF;rw[Ap,show((fun(x:Key×V)=>x.1) ∘ fun(x:Int×Addr)=>((Sum.inl x.1:Key),V.ref x.2))=(Sum.inl ∘ Prod.fst) from rfl,<-Ap,List.map_fst_zip ω]
def Lo{ks:List Int}{ls:List Addr}(hl:ls.length=ks.length)(hn:ks.Nodup):((dF ks ls).map (·.1)).Nodup:=by
 rw[Ln hl];exact List.pairwise_map.mpr (hn.imp fun a e=>a (by simpa using e))
def Lp{ks:List Int}{ls:List Addr}(hl:ls.length=ks.length):(dF ks ls).map (·.2)=ls.map V.ref:=by
 unfold dF;rw[Ap,show((fun(x:Key×V)=>x.2) ∘ fun(x:Int×Addr)=>((Sum.inl x.1:Key),V.ref x.2))=(V.ref ∘ Prod.snd) from rfl,<-Ap,List.map_snd_zip ω]
def Lq{ks:List Int}{ls:List Addr}(hl:ls.length=ks.length)(hn:ks.Nodup){k:Int}(hk:k∈ks):∃(j:Nat)(a:Addr),ks[j]?=some k/\ls[j]?=some a/\aU (dF ks ls) (Sum.inl k)=some (.ref a):=by
 obtain⟨j,b,e⟩:=List.mem_iff_getElem.mp hk;have e1:ks[j]?=some k:=by rw[Ae b,e]
 have e2:ls[j]?=some ls[j]:=Ae ω;refine⟨j,ls[j],e1,e2,Ds (Lo hl hn) ?_⟩;unfold dF;refine List.mem_map.mpr ⟨(k,ls[j]),?_,rfl⟩;exact List.mem_iff_getElem?.mpr ⟨j,by rw[bD.bw,e1,e2];rfl⟩
def Lr{ks:List Int}{ls:List Addr}{k:Int}(hk:k∉ks):aU (dF ks ls) (Sum.inl k)=none:=Dt fun kv h e=>by
 obtain⟨x,hx,rfl⟩:=List.mem_map.mp h;have:x.1=k:=by simpa using e
 exact hk (this▸(List.of_mem_zip hx).1)
def Ls{ks:List Int}{ls:List Addr}(hl:ls.length=ks.length)(k:Int)(a:Addr):dF ks ls++[(Sum.inl k,V.ref a)]=dF (ks++[k]) (ls++[a]):=by
 unfold dF;rw[List.zip_append hl.symm,Ah]
 rfl
def El(l:Ξ)(x:Int):zA (l++[[x]])=zA l++[x]:=by unfold zA;rw[AK,Ah];rfl
def Lu(l:Ξ){p:List Int}(h:p.length≠1):zA (l++[p])=zA l:=by unfold zA;rw[AK,AT (by simpa using h),List.filter_nil,AN]
def zhm.tps{d:Addr}{H H2:Hp}(b:zhm d H H2){kvs:List (Key×V)}(hd:H d=some (.dK kvs)){as:List Addr}{pss:Ξ}(h:Tps H as pss):Tps H2 as pss:=
 Paired.mapP h fun a ps q=>b a _ (aF q hd (by intro z;cases z)) q
abbrev grp(nm:Int->Int)(l:List Int)(k:Int):List Int:=l.filter fun p=>decide (nm p=k)
def se(nm:Int->Int)(l:List Int)(p k:Int):grp nm (l++[p]) k=grp nm l k++(if nm p=k then [p] else []):=by
 unfold grp;rw[AK]
 by_cases h:nm p=k
 ·rw[if_pos h,List.filter_cons_of_pos (by simpa using h)];rfl
 ·rw[if_neg h,AT (by simpa using h)];rfl
def oo{d:Type}{l:List d}(h:l.Nodup){i j:Nat}{a b:d}(hi:l[i]?=some a)(f:l[j]?=some b)(c:i≠j):a≠b:=fun e=>by
 subst e;obtain⟨h1,e1⟩:=List.getElem?_eq_some_iff.mp hi;obtain⟨h2,e2⟩:=List.getElem?_eq_some_iff.mp f;have hp:=List.pairwise_iff_getElem.mp h;rcases Nat.lt_or_gt_of_ne c with q|q
 ·exact hp i j h1 h2 q (e1.trans e2.symm)
 ·exact hp j i h2 h1 q (e2.trans e1.symm)
def Ill.add_old{H:Hp}{a:Addr}{ls:List Addr}{ks l:List Int}{nm:Int->Int}{q:Int}{j:Nat}(h:Ill H ls (ks.map (grp nm l)))(hn:ls.Nodup)(hk:ks.Nodup)(d:ks[j]?=some (nm q))(f:ls[j]?=some a):Ill (L2.upd H a (.lst ((grp nm l (nm q)).map V.int++[.int q]))) ls (ks.map (grp nm (l++[q]))):=by
 refine⟨by rw[h.1,Aa,Aa],fun c b x hb hx=>?_⟩;rw[Ak] at hx;cases ek:ks[c]? with
 |none=>rw[ek] at hx;cases hx
 |some k'=>
  rw[ek] at hx;obtain rfl:=Am hx
  by_cases e:c=j
  ·subst e
   rw[f] at hb;obtain rfl:=Am hb;rw[d] at ek;obtain rfl:=Am ek;rw[za,se,if_pos rfl,Ah]
   rfl
  ·rw[ab (oo hn hb f e),se,if_neg (oo hk d ek (Ne.symm e)),AN]
   exact h.2 c b _ hb (by rw[Ak,ek];rfl)
def Ill.add_new{H:Hp}{a:Addr}{ls:List Addr}{ks l:List Int}{nm:Int->Int}{q:Int}(h:Ill H ls (ks.map (grp nm l)))(hq:nm q∉ks)(g:a∉ls)(hc:∀p∈l,nm p∈ks):Ill (L2.upd H a (.lst [.int q])) (ls++[a]) ((ks++[nm q]).map (grp nm (l++[q]))):=by
 have hl:ls.length=ks.length:=by rw[h.1,Aa]
 refine⟨by simp[hl],fun c b x hb hx=>?_⟩;rw[Ak] at hx
 by_cases e:c<ks.length
 ·rw[List.getElem?_append_left e,Ae e] at hx
  rw[List.getElem?_append_left ω] at hb;obtain rfl:=Am hx;have d:b≠a:=fun z=>g (by rw[<-z];exact Al hb);rw[ab d,se,if_neg (fun z=>hq (by rw[z];exact A9 e)),AN];exact h.2 c b _ hb (by rw[Ak,Ae e];rfl)
 ·have f:c=ks.length:=by
   have:=(List.getElem?_eq_some_iff.mp hb).1;simp at this;omega
  subst f;rw[List.getElem?_append_right (Ag _),Nat.sub_self] at hx;rw[List.getElem?_append_right ω,hl,Nat.sub_self] at hb;obtain rfl:=Am hx;obtain rfl:=Am hb;rw[za,se,if_pos rfl,show grp nm l (nm q)=[] from List.filter_eq_nil_iff.mpr fun p hp z=>hq ((of_decide_eq_true z)▸hc p hp)]
  rfl
section
variable{P:Program}{w:World}{K:Af}{mg:Str->Option Value}{base:Heap}
abbrev kb(pss:Ξ):Int->Int:=bY (bq (canon pss))
def yu(K:Af):Sp:=fun vs H Q _=>∃l as pss,vs=[.ref l]/\SqL K H l (as.map V.ref)/\Tps H as pss/\cv pss/\
 ∀D H2 ls,Same H H2->H D=none->(∀a∈ls,H a=none)->ls.Nodup->D∉ls->H2 D=some (.lst (ls.map V.ref))->Ill H2 ls (shr (kb pss) (zA (canon pss)))->Q (.ref D) H2
def jc:zq ["web","every","names","piece","found","point"] ["web"] (zh om):=⟨rfl,rfl,rfl,δ,rfl,δ,δ⟩
def Lv{f fp fr:Addr}{fd a7 dH:FuncData}(F:Fun K "shares" "shares" om f fd)(B:Bt mg)(Fp:Fun K "pieces" "pieces" iY fp a7)(bp:Binds K a7 ["web"] [])(mp:mg "pieces"=some (.ref fp))(Gp:FnOk P w K mg base aJ 8 fp a7 ["web"] (lr K))(Fr:Fun K "renamed" "renamed" rW fr dH)(br:Binds K dH ["names","new","old"] [])(mr:mg "renamed"=some (.ref fr)):FnOk P w K mg base aJ 9 f fd ["web"] (yu K):=by
 have Gr:FnOk P w K mg base aJ 1 fr dH ["names","new","old"] Ek:=Lm Fr;refine F.ok jc (fun vs H Q E h=>?_) (fun cdv A outer s H vs Q E hr h=>?_)
 ·obtain⟨l,as,pss,rfl,_⟩:=h;rfl
 ·obtain⟨l,as,pss,rfl,hl,ht,hw,k⟩:=h
  have hu:=gY hr;have hr1:Room 1 _:=hr.mono ξ;obtain⟨_,hpc,_,dy⟩:=lm hw.1;have qI:(canon pss).length<=200:=by rw[zY];exact dy
  have aN:=DQ pss;have fV:(zA (canon pss)).Nodup:=aN.imp Int.ne_of_lt;have hpl:(zA (canon pss)).length<=200:=by unfold zA;rw[Aa];exact AD (List.length_filter_le _ _) qI
  have LAST:∃tt,PSs (dI aJ P w K mg base ["web","every","names","piece","found","point"] "shares" (zh om) f cdv A outer s H E).nox (List.drop 4 (zaW om)) tt/\
    ∀(I d:Addr)(M:Option V)(nm:Int->Int)(H2:Hp),nm=kb pss->Same H H2->H d=none->H2 d=some (.dK (bI nm (zA (canon pss))))->
     tt {nx:=fun _ H'=>Q .non H',rt:=Q} [some (.ref l),some (.ref I),some (.ref d),M,none,none] H2:=by
   refine⟨_,zd (zp (i:=4) jc.nd rfl (Or.inl rfl) pL)
    (zd (zK AG rfl (Dq (pv 2)) (zk (i:=5) jc.nd rfl (Or.inl rfl))
     (zg (gN (eU PySem.F.plainAttrs_list PySem.F.slot_list_append PySem.F.type_list_append ig (eU PySem.F.plainAttrs_dict PySem.F.slot_dict_setdefault PySem.F.type_dict_setdefault J2 (pv 4) (zb (zP hu (pv 2) (pv 5) (fun _ _=>rfl)) (zb (z0 zc) zc))) (zb (pv 5) zc)))))
    (zg (zu (zm (J4 rfl) rfl B.list du (zb (GX PySem.F.plainAttrs_dict PySem.F.slot_dict_values PySem.F.type_dict_values J3 (pv 4)) zc))))),?_⟩
   intro I d M nm H2 hnm sm fu hd;intro J hF;subst hnm;generalize kb pss=nm at hd k;have iJ:H J=none:=sm.free hF;have mY:d≠J:=ze hd hF;have js:upd H2 J (.dK []) d=some (.dK (bI nm (zA (canon pss)))):=by rw[ab mY];exact hd
   refine⟨_,rfl,d,_,rfl,js,fun o=>Dr (fun i σ r=>∃(v5:Option V)(ls:List Addr),σ=[some (.ref l),some (.ref I),some (.ref d),M,some (.ref J),v5]/\Same H r/\r d=some (.frz o (.dK (bI nm (zA (canon pss)))))/\ls.Nodup/\(∀a∈ls,H a=none/\a≠J/\a≠d)/\
     r J=some (.dK (dF (fs (((zA (canon pss)).take i).map nm)) ls))/\Ill r ls ((fs (((zA (canon pss)).take i).map nm)).map (grp nm ((zA (canon pss)).take i))))
    ⟨none,[],rfl,fun b u e=>by rw[ab (ze e fu),ab (ze e iJ)];exact sm _ _ e,za,A7,(fun a ha=>absurd ha (by simp)),by rw[ab mY.symm];exact za,rfl,fun j a x hj _=>by simp at hj⟩ (fun i σ r _ ⟨_,_,_,_,h,_⟩=>h) ?_ ?_⟩
   ·rintro i kv σ r cO ⟨v5,ls,rfl,U,S,i7,W,X,dY⟩
    generalize hpts:zA (canon pss)=c at *;have hlen:(bI nm c).length=c.length:=by unfold bI;rw[Aa]
    have hi:i<c.length:=by rw[<-hlen];exact(List.getElem?_eq_some_iff.mp cO).1
    have el:c[i]?=some c[i]:=Ae hi;have bN:c[i]∈c:=A9 hi;have nY:kv=(Sum.inl c[i],V.int (nm c[i])):=by
     have:(bI nm c)[i]?=some (Sum.inl c[i],V.int (nm c[i])):=by unfold bI;rw[Ak,el];rfl
     rw[this] at cO;exact(Am cO).symm
    subst nY;generalize c[i]=q at el bN;have g:∀G:Hp,G d=some (.frz o (.dK (bI nm c)))->DGet G d (kV (Sum.inl q)) (some (V.int (nm q))):=fun G h4=>.inl ⟨_,Sum.inl q,.inr ⟨o,h4⟩,rfl,(yr nm fV bN).symm⟩;have iz:ls.length=(fs ((c.take i).map nm)).length:=by rw[dY.1,Aa]
    have hcov:∀p∈c.take i,nm p∈fs ((c.take i).map nm):=fun p hp=>(ry _ _).mpr (List.mem_map_of_mem hp);have cP:(fs ((c.take i).map nm)).length<=200:=by
     have:=(ye ((c.take i).map nm)).length_le_of_subset (l₂:=(c.take i).map nm) fun x h=>(ry _ x).mp h;rw[Aa,Ay] at this;omega
    have hz:(dF (fs ((c.take i).map nm)) ls).length<sizeLine:=cu (by unfold dF;rw[Aa,List.length_zip];omega);have C:fs ((c.take (i+1)).map nm)=da (fs ((c.take i).map nm)) (nm q):=by rw[AF el,Ah];exact rx _ _
    have htk:c.take (i+1)=c.take i++[q]:=AF el;refine⟨_,rfl,.inr (.inr (.inl ⟨rfl,.inl ⟨_,X⟩⟩)),_,rfl,_,rfl,d,_,rfl,g r S,zf (by simp),fun L N=>⟨J,_,Sum.inl (nm q),.ref L,rfl,rfl,Same.new N _ _ X,hz,?_⟩⟩;have jp:H L=none:=U.free N;have ox:L≠J:=(ze X N).symm;have kf:L≠d:=(ze S N).symm;have jO:L∉ls:=fun hm=>by
     obtain⟨j,hj⟩:=List.getElem?_of_mem hm;obtain⟨x,_,hx⟩:=dY.get hj;exact absurd N (by rw[hx];simp)
    have sN:=Same.new (o:=.lst []) N;have fj:=dY.same sN;have hF4:=sN _ _ X;have O:=sN _ _ S;have dz:upd r L (.lst []) L=some (.lst []):=za;have Y:=U.trans sN;generalize upd r L (.lst [])=G at fj hF4 O dz Y
    by_cases hk:nm q∈fs ((c.take i).map nm)
    ·obtain⟨j,a,ej,ea,ev⟩:=Lq iz (ye _) hk
     have jJ:=fj.2 j a _ ea (by rw[Ak,ej];rfl);obtain⟨dW,q_,uH⟩:=W a (Al ea);have dD:da (fs ((c.take i).map nm)) (nm q)=fs ((c.take i).map nm):=by unfold da;rw[if_pos hk]
     refine .inl ⟨_,ev,.inl ⟨rfl,_,SqL.of jJ⟩,_,rfl,a,_,_,rfl,rfl,jJ,zM (by rw[Aa];exact AD (List.length_filter_le _ _) (by rw[Ay];omega)),⟨_,ls,rfl,fun b u e=>by rw[ab (ze e dW)];exact Y _ _ e,by rw[ab uH.symm];exact O,i7,W,?_,?_⟩⟩
     ·rw[ab q_.symm,C,dD];exact hF4
     ·rw[C,dD,htk]
      exact fj.add_old i7 (ye _) ej ea
    ·have dD:da (fs ((c.take i).map nm)) (nm q)=fs ((c.take i).map nm)++[nm q]:=by unfold da;rw[if_neg hk]
     have e0:aU (dF (fs ((c.take i).map nm)) ls) (Sum.inl (nm q))=none:=Lr hk;have kx:upd G J (.dK (putK (dF (fs ((c.take i).map nm)) ls) (Sum.inl (nm q)) (.ref L))) L=some (.lst []):=by rw[ab ox];exact dz
     refine .inr ⟨e0,.inl ⟨rfl,_,SqL.of kx⟩,_,rfl,L,_,_,rfl,rfl,kx,zM (by simp),⟨_,ls++[L],rfl,fun b u e=>by rw[ab (ze e jp),ab (ze e iJ)];exact Y _ _ e,?_,?_,?_,?_,?_⟩⟩
     ·rw[ab kf.symm,ab mY];exact O
     ·rw[AU]
      exact⟨i7,by simp,fun a ha b hb e=>by
       have:b=L:=by simpa using hb
       subst this;subst e;exact jO ha⟩
     ·intro a ha
      rcases List.mem_append.mp ha with h|h
      ·exact W a h
      ·have:a=L:=by simpa using h
       subst this;exact⟨jp,ox,kf⟩
     ·rw[ab ox.symm,za,BU _ e0,Ls iz,C,dD]
     ·rw[C,dD,htk]
      exact Ill.add_new (fj.put fun hm=>(W _ hm).2.1 rfl) hk jO hcov
   ·rintro σ r ⟨v5,ls,rfl,U,S,i7,W,X,dY⟩
    rw[show(bI nm (zA (canon pss))).length=(zA (canon pss)).length by unfold bI;rw[Aa],Ax (Ag _)] at X dY;have iz:ls.length=(fs ((zA (canon pss)).map nm)).length:=by rw[dY.1,Aa]
    refine⟨_,rfl,.inr (.inr (.inl ⟨rfl,.inl ⟨_,X⟩⟩)),J,_,rfl,rfl,X,fun v hv=>⟨v,J,_,rfl,za,Same.new hv _ _ X,fun D hD=>?_⟩⟩;have s5:=(U.trans (Same.new (o:=jU v J) hv));have s6:=s5.trans (Same.new (o:=.lst ((dF (fs ((zA (canon pss)).map nm)) ls).map (·.2))) hD);have mS:=(dY.same (Same.new (o:=jU v J) hv)).same (Same.new (o:=.lst ((dF (fs ((zA (canon pss)).map nm)) ls).map (·.2))) hD);refine k D _ ls s6 (s5.free hD) (fun a ha=>(W a ha).1) i7 (fun hm=>?_) (by rw[za,Lp iz]) mS;obtain⟨j,hj⟩:=List.getElem?_of_mem hm;obtain⟨x,_,hx⟩:=(dY.same (Same.new (o:=jU v J) hv)).get hj;exact absurd hD (by rw[hx];simp)
  obtain⟨tt,kC,nj⟩:=LAST;refine⟨_,zd (zp (i:=1) jc.nd rfl (Or.inl rfl) (zn Gp hr rfl mp Fp.kp bp .nil al (zb (pv 0) zc)))
   (zd (zp (i:=2) jc.nd rfl (Or.inl rfl) pL)
   (zd (zK AG rfl (zr (pv 1)) (zk (i:=3) jc.nd rfl (Or.inl rfl))
    (zg (cY (zt gU (zl zj rfl B.len cH (zb (pv 3) zc)) zi (ao _)) (zg (ik hu (pv 2) (cd eT (pv 3) zi (fun _ _=>rfl)) (cd eT (pv 3) zi (fun _ _=>rfl)) rfl)) zE)))
   (zd (zK AG rfl (zr (pv 1)) (zk (i:=3) jc.nd rfl (Or.inl rfl))
    (zg (cY (zt gU (zl zj rfl B.len cH (zb (pv 3) zc)) zi (ao _)) (zg (zp (i:=2) jc.nd rfl (Or.inl rfl) (zn Gr hr1 rfl mr Fr.kp br .nil al
     (zb (pv 2) (zb (zP hu (pv 2) (cd eT (pv 3) zi (fun _ _=>rfl)) (fun _ _=>rfl)) (zb (zP hu (pv 2) (cd eT (pv 3) zi (fun _ _=>rfl)) (fun _ _=>rfl)) zc)))))) zE)))
   kC))),?_⟩
  refine⟨_,rfl,l,as,pss,rfl,hl,ht,hw,fun I H1 es bW vJ gW iN d hd=>?_⟩;have fu:H d=none:=bW.free hd;have qP:I≠d:=ze gW hd;have W:=iN.length;refine⟨_,rfl,I,rfl,⟨_,SqL.of (Same.new hd _ _ gW)⟩,zC (K:=K) (a:=I) (xs:=es.map V.ref) (fun i σ r=>∃M:Option V,σ=[some (.ref l),some (.ref I),some (.ref d),M,none,none]/\Same H r/\r I=some (.lst (es.map V.ref))/\Tps r es (canon pss)/\r d=some (.dK (bI id (zA ((canon pss).take i)))))
   ⟨none,rfl,bW.then fu,Same.new hd _ _ gW,(Same.new hd).tps iN,za⟩ (fun i σ r _ ⟨_,_,_,h,_⟩=>SqL.of h) ?_ ?_⟩
  ·rintro i x σ r hx ⟨M,rfl,U,dc,dh,S⟩
   obtain⟨o,eo,rfl⟩:=zD hx;obtain⟨p,ep,hp⟩:=dh.get eo;refine⟨_,rfl,o,_,rfl,.inr (SqT.of hp),rfl,_,rfl,?_⟩
   by_cases h1:p.length=1
   ·rw[show decide (V.int ((p.map V.int).length:Int)=V.int 1)=true from decide_eq_true (by rw[Aa,h1];rfl)]
    obtain⟨x,rfl⟩:∃x,p=[x]:=by
     match p,h1 with
     |[x],_=>exact⟨x,rfl⟩
    have hnd:(zA ((canon pss).take (i+1))).Nodup:=fV.sublist (((List.take_sublist _ _).filter _).map _);rw[AF ep,El,AU] at hnd;have mR:x∉zA ((canon pss).take i):=fun hm=>hnd.2.2 x hm x (by simp) rfl;have hz:(bI id (zA ((canon pss).take i))).length<sizeLine:=cu (by
     unfold bI zA;rw[Aa,Aa];exact AD (List.length_filter_le _ _) (by rw[Ay];omega))
    refine bb ⟨_,rfl,o,_,_,.int x,rfl,rfl,SqT.of hp,zy (j:=0) rfl,_,rfl,_,rfl,o,_,_,.int x,rfl,rfl,SqT.of hp,zy (j:=0) rfl,d,_,rfl,DPut.k (k:=Sum.inl x) S hz,⟨_,rfl,fun b u e=>by rw[ab (ze e fu)];exact U _ _ e,by rw[ab qP];exact dc,Tps.upd dh S (by intro xs z;cases z),?_⟩⟩;rw[za,AF ep,El];exact congrArg (fun z=>some (HO.dK z)) (Ej id mR)
   ·rw[show decide (V.int ((p.map V.int).length:Int)=V.int 1)=false from decide_eq_false fun z=>h1 (by injection z with z;rw[Aa] at z;omega)]
    refine aW ⟨_,rfl,U,dc,dh,?_⟩;rw[AF ep,Lu _ h1];exact S
  ·rintro σ r ⟨M,rfl,U,dc,dh,S⟩
   rw[Aa,W,Ax (Ag _)] at S;refine⟨_,rfl,I,rfl,⟨_,SqL.of dc⟩,zC (K:=K) (a:=I) (xs:=es.map V.ref) (fun i σ G=>∃(M:Option V)(d':Addr),σ=[some (.ref l),some (.ref I),some (.ref d'),M,none,none]/\Same H G/\G I=some (.lst (es.map V.ref))/\Tps G es (canon pss)/\H d'=none/\G d'=some (.dK (bI (bY (bq ((canon pss).take i))) (zA (canon pss)))))
    ⟨M,d,rfl,U,dc,dh,fu,S⟩ (fun i σ G _ ⟨_,_,_,_,h,_⟩=>SqL.of h) ?_ ?_⟩
   ·rintro i x σ G hx ⟨M,d',rfl,Y,eL,eD,eP,O⟩
    obtain⟨o,eo,rfl⟩:=zD hx;obtain⟨p,ep,hp⟩:=eD.get eo;refine⟨_,rfl,o,_,rfl,.inr (SqT.of hp),rfl,_,rfl,?_⟩
    by_cases h2:p.length=2
    ·rw[show decide (V.int ((p.map V.int).length:Int)=V.int 2)=true from decide_eq_true (by rw[Aa,h2];rfl)]
     obtain⟨x,y,rfl⟩:∃x y,p=[x,y]:=by
      match p,h2 with
      |[x,y],_=>exact⟨x,y,rfl⟩
     obtain⟨hx,hy⟩:=DP (Al ep);have C:bY (bq ((canon pss).take (i+1)))=K1.ren (bY (bq ((canon pss).take i))) (x,y):=by rw[AF ep,KA,yd]
     generalize bY (bq ((canon pss).take i))=nm at O C;have g:∀z,z∈zA (canon pss)->DGet G d' (kV (Sum.inl z)) (some (V.int (nm z))):=fun z hz=>.inl ⟨_,Sum.inl z,.inl O,rfl,(yr nm fV hz).symm⟩;refine bb ⟨_,rfl,_,rfl,_,rfl,o,_,_,.int x,rfl,rfl,SqT.of hp,zy (j:=0) rfl,d',_,rfl,g x hx,_,rfl,_,rfl,o,_,_,.int y,rfl,rfl,SqT.of hp,zy (j:=1) rfl,d',_,rfl,g y hy,?_⟩;refine⟨d',nm x,nm y,nm,_,rfl,O,fV,ω,fun T H5 sx nJ hT=>⟨_,T,rfl,fun b u e=>sx b u (ze e eP) (Y _ _ e),sx _ _ (aF eL O (by intro z;cases z)) eL,sx.tps O eD,Y.free nJ,?_⟩⟩;rw[C];exact hT
    ·rw[show decide (V.int ((p.map V.int).length:Int)=V.int 2)=false from decide_eq_false fun z=>h2 (by injection z with z;rw[Aa] at z;omega)]
     refine aW ⟨_,d',rfl,Y,eL,eD,eP,?_⟩;rw[AF ep,KC _ h2];exact O
   ·rintro σ G ⟨M,d',rfl,Y,eL,eD,eP,O⟩
    rw[Aa,W,Ax (Ag _)] at O;exact nj I d' M _ G rfl Y eP O
end
end K50
end
section
namespace DCp
open PySem
def yv:mroOf (.type "dict")=pure [.type "dict",.type "object"]:=by rw[mroOf_type];kernel_rfl
def Lw:typeLookup (.type "dict") "__new__"=pure (some (.builtin "dict.__new__")):=by rw[typeLookup_type,builtinLookup_eq_fast];kernel_rfl
def zL:TypeCalled "dict" "dict.__new__" "dict.__init__":=
 ⟨δ,δ,⟨_,_,yv⟩,madeBy_type yv Lw δ,δ,by rw[isSubtype_type];kernel_rfl,PySem.F.slot_dict_init⟩
def Lx(a:Value):checkTypeCall "dict" ⟨[a],[]⟩=pure ():=by kernel_rfl
def Ly(a:Value):checkBuiltinCall "dict.__new__" ⟨[.type "dict",a],[]⟩=pure ():=by kernel_rfl
def LA:entryFor table "dict.__new__"=some Builtin.«dict.__new__»:=entryFor_of_tree (by kernel_rfl)
def Em:plainId "dict.__new__"=true:=δ
def Eo:isSubtype (.type "dict") (.type "dict")=pure true:=by rw[isSubtype_type];kernel_rfl
section
variable{prog:Program}{w:World}{A:Around}{E:Ω}{s:Shared}
def LB(a:Value){Q₁:Ω}(h:Q₁ (.ref s⁻¹) {s with heap:=s.heap.push {cls:=.type "dict",data:=.dict #[]}}):codeAny (model prog w) A (.call (.builtin "dict.__new__") ⟨[.type "dict",a],[]⟩) (wants Q₁ E) s:=by
 refine codeAny_of_tree (show wpAny _ A.in1 (do checkBuiltinCall "dict.__new__" ⟨[.type "dict",a],[]⟩;again (.builtin "dict.__new__" ⟨[.type "dict",a],[]⟩)) _ _ s from Ab (wpAny_of_eq (Ly a) (Ac ⟨plainId_quiet Em _,A4 LA ?_⟩)));rw[AX Em _];unfold Builtin.«dict.__new__»;have b:=Eo;have c:=yv;obtain⟨hp,g,d,tk,os⟩:=s;dsimp only;refine Ab (wpAny_of_eq (a:=true) rfl ?_);simp only[Bool.not_true,Au,if_false];refine Ab (wpAny_of_eq b ?_);simp only[Bool.not_true,Au,if_false];refine Ab (wpAny_of_eq c ?_);rw[if_neg ξ];refine Ab (Bb ?_);exact Ac h
end
end DCp
end
section
namespace L2
open PySem PySem.Spec PyProof.Rows
def LC{P:Program}{w:World}(ps:List Int):Aw (zo P w) (ps.map Sum.inl)=Aw (intKind P w) ps:=by
 unfold Aw;rw[Ap]
 rfl
end L2
end
section
namespace DPr
open PySem PyProof.Rows
section
variable{prog:Program}{w:World}{A:Around}{E:Ω}{s:Shared}
def LF:typeLookup (.type "list") "keys"=pure none:=by rw[typeLookup_type,builtinLookup_eq_fast];kernel_rfl
def LG{a:Addr}{o:Obj}{xs:Array Value}{k:Nat}{Q:Option Value->Shared->Prop}(hx:s.heap.get? a=some o)(hc:o.cls=.type "list")(j:o.data=.seq xs k)(hd:o.dict=none)(p:A.handled=none)(h:∀h' tk e,Heap.NewExcOf s.heap h' e "AttributeError"->Q none {s with heap:=h',toks:=tk}):wpAny (model prog w) A (getAttr? (.ref a) "keys") Q E s:=by
 obtain⟨c,q,r,l⟩:=o;simp only at hc j hd;subst hc j hd;obtain⟨hp,g,d,tk,os⟩:=s;have i:∀f,(⟨hp,g,d,f,os⟩:Shared).TypeIs (.ref a) "list":=fun _=>⟨_,hx,rfl⟩;have f1:=sub_AttributeError;have v:=F.slot_list_getattribute.lookup;have x:=F.slot_list_getattribute.bind (.ref a);have f5:=am_list_getattr_none;unfold getAttr? getAttrBy? getAttrBy
 repeat(any_goals(first|assumption|exact i _|((with_reducible show wpAny _ _ (call (Value.builtin "list.__getattribute__") _ _) _ _ _);refine call_meets F.slot_list_getattribute (i _) am_entry_list_getattribute (F.args_list_getattribute_2 _ _) (meets_getattribute_miss_list a xs k l "keys" _ LF ξ (by size_fits)) ⟨hx,p,fun h' f e b=>?_⟩)|wp_step))
 obtain⟨t',u,he⟩:=b.there;show wpAny _ _ (getattributeRaised _ _ _ _ _ _ _) _ _ _;unfold getattributeRaised
 repeat(any_goals(first|assumption|wp_step))
 exact h _ _ _ b.of
def Ep:entryFor table "dict.update.loop"=some Builtin.«dict.update.loop»:=entryFor_of_tree (by kernel_rfl)
def sh:plainId "dict.update.loop"=true:=δ
abbrev lp(D I:Addr)(i:Int):Code:=.builtin "dict.update.loop" ⟨[.ref D,.ref I,rawInt i,.none],[]⟩
variable{K:Type}[DecidableEq K]{knd:KeyKind prog w K}
abbrev Pr(K:Type):Type:=Addr×List K×Addr×Value
def Good(knd:KeyKind prog w K)(h:Heap)(x:Pr K):Prop:=h.IsTuple x.1 #[.ref x.2.2.1,x.2.2.2]/\AS knd h x.2.1 x.2.2.1
def ot(xs:List (List K×Addr×Value))(ts:List (Pr K)):List (List K×Addr×Value):=ts.foldl (fun acc x=>storedH acc x.2.1 x.2.2.1 x.2.2.2) xs
def Er{h h':Heap}{x:Pr K}{D I:Addr}{o:Obj}(g:Good knd h x)(y:∃o,h.get? D=some o/\o.cls=.type "dict")(A:∃o,h.get? I=some o/\o.cls=.type "list_iterator")(j:∀b o,b≠D->b≠I->h.get? b=some o->h'.get? b=some o):Good knd h' x:=by
 obtain⟨⟨l,e1,f,p⟩,q,it,n,e2,i,r⟩:=g;obtain⟨C,s,u⟩:=y;obtain⟨E,v,w⟩:=A;have ne:∀{a:Addr}{e:Obj},h.get? a=some e->e.cls=.type "tuple"->a≠D/\a≠I:=fun{a e} c d=>by
  refine⟨fun z=>?_,fun z=>?_⟩
  ·rw[z,s] at c
   rw[<-Am c,u] at d;exact absurd d ξ
  ·rw[z,v] at c
   rw[<-Am c,w] at d;exact absurd d ξ
 exact⟨⟨l,j _ _ (ne e1 f).1 (ne e1 f).2 e1,f,p⟩,q,it,n,j _ _ (ne e2 i).1 (ne e2 i).2 e2,i,r⟩
def Es{h h':Heap}{D I:Addr}{xs:List (List K×Addr×Value)}(d:h.DictOfH (Bd knd) D xs)(c:D≠I)(q:∃o,h.get? I=some o/\o.cls=.type "list_iterator")(e:∀b o,b≠I->h.get? b=some o->h'.get? b=some o):h'.DictOfH (Bd knd) D xs:=by
 obtain⟨o,es,ep,f,hc,hd,he,g,hn⟩:=d;obtain⟨r,i,j⟩:=q;refine⟨o,es,ep,e _ _ c f,hc,hd,he,fun x hx=>?_,hn⟩;obtain⟨l,it,n,e2,a,p⟩:=g x hx;refine⟨l,it,n,e _ _ (fun z=>?_) e2,a,p⟩;rw[z,i] at e2;rw[<-Am e2,j] at a;exact absurd a ξ
def pair_items{t:Addr}{b:Array Value}{Q:List Value->Shared->Prop}(c:s.heap.IsTuple t b)(h:Q b.toList s):wpAny (model prog w) A (Builtin.Dict.pairItems (.ref t)) Q E s:=by
 obtain⟨o,a,hc,n,hd⟩:=c;unfold Builtin.Dict.pairItems;refine Ab (wpAny_typeOf (show s.TypeIs (.ref t) "tuple" from⟨o,a,hc⟩) ?_);rw[if_pos ξ];exact Ab (A0 a hd (Ac h))
def LH(xs:List (List K×Addr×Value))(k:List K)(a:Addr)(v:Value):(storedH xs k a v).length<=xs.length+1:=by
 unfold storedH;split
 ·rw[Aa];omega
 ·rw[Ai];simp
def lB{D I L:Addr}{ts:List (Pr K)}{R:Result->Shared->Prop}(hh:A.handled=none)(hu:A.units+1<cLine)(p:D≠I)(E:L≠D)(u:L≠I):∀(k j:Nat)(s:Shared)(xs:List (List K×Addr×Value)),ts.length-j=k->j<=ts.length->s.heap.IsListIter I L j->s.heap.IsList L (ts.map fun x=>Value.ref x.1).toArray->(∀x∈ts,Good knd s.heap x)->
   s.heap.DictOfH (Bd knd) D xs->xs.length+k<=sizeLine->
   (∀h' tk,h'.DictOfH (Bd knd) D (ot xs (ts.drop j))->(∀b o,b≠D->b≠I->s.heap.get? b=some o->h'.get? b=some o)->R (.ok (.ret .none)) {s with heap:=h',toks:=tk})->
   codeAny (model prog w) A (lp D I j) R s
 |0,j,s,xs,hk,hj,aO,hl,hg,hd,hz,hQ=>by
  have hn:j=ts.length:=ω
  subst hn;have W:=Walks.list (prog:=prog) (w:=w) (A:=A.in1) hh I L u (ts.map fun x=>Value.ref x.1).toArray;refine A4 Ep ?_;rw[AX sh _];unfold Builtin.«dict.update.loop»;dsimp only[rawInt];refine Ab (W.done s _ _ ⟨by simpa using aO,hl⟩ fun h' tk d=>?_);dsimp only;unfold Builtin.Dict.addKeywords;refine Ab (wpAny_of_eq (a:=()) rfl ?_);obtain⟨c,f,g,_⟩:=aO;refine Ac (hQ h' tk ?_ fun b o _ hb e=>d b o (by simpa using hb) e);rw[List.drop_length];exact Es hd p ⟨c,f,g⟩ fun b o hb e=>d b o (by simpa using hb) e
 |k+1,j,s,xs,hk,hj,aO,hl,hg,hd,hz,hQ=>by
  have W:=Walks.list (prog:=prog) (w:=w) (A:=A.in1) hh I L u (ts.map fun x=>Value.ref x.1).toArray;have h:j<ts.length:=ω
  refine A4 Ep ?_;rw[AX sh _];unfold Builtin.«dict.update.loop»;dsimp only[rawInt];refine Ab (W.item j s _ _ (by simpa using h) ⟨aO,hl⟩ fun v h1 tk F y d=>?_);have Q:v=.ref (ts[j]).1:=by
   have:(ts.map fun x=>Value.ref x.1).toArray[j]?=some (Value.ref (ts[j]).1):=by simp[h]
   exact Am (F.symm.trans this)
  subst Q;have U:=hg ts[j] (A9 h);obtain⟨c,f,g,_⟩:=id aO;have z:∃o,s.heap.get? D=some o/\o.cls=.type "dict":=by
   obtain⟨o,es,ep,N,hc,_⟩:=hd;exact⟨o,N,hc.1⟩
  have i:∀b o,b≠D->b≠I->s.heap.get? b=some o->h1.get? b=some o:=fun b o _ hb e=>d b o (by simpa using hb) e;have S:∀x∈ts,Good knd h1 x:=fun x hx=>Er (o:=c) (hg x hx) z ⟨c,f,g⟩ i;have T:h1.DictOfH (Bd knd) D xs:=Es hd p ⟨c,f,g⟩ fun b o hb e=>d b o (by simpa using hb) e;obtain⟨O,P⟩:=S ts[j] (A9 h);dsimp only;refine Ab (AM (Ab (wpAny_tryCatch (pair_items (s:={s with heap:=h1,toks:=tk}) O ?_))));dsimp only;refine AM (wpAny_dictSet_heap (knd:=Bd knd) (s:={s with heap:=h1,toks:=tk}) (hsz:=by omega) (tupleKind_room_in1 hu) P T fun h2 G q=>?_);have C:∀b o,b≠D->b≠I->s.heap.get? b=some o->h2.get? b=some o:=fun b o hb hi e=>by rw[q.2 b hb];exact i b o hb hi e
  have l:h2.IsListIter I L (j+1):=y.1.at fun o e=>by rw[q.2 I (Ne.symm p)];exact e
  have r:h2.IsList L (ts.map fun x=>Value.ref x.1).toArray:=y.2.at fun o e=>by rw[q.2 L E];exact e
  refine Ac ⟨plainId_quiet sh _,?_⟩;refine lB hh hu p E u k (j+1) {s with heap:=h2,toks:=_} _ ω ω l r (fun x hx=>Er (o:=c) (hg x hx) z ⟨c,f,g⟩ C) G (by have:=LH xs (ts[j]).2.1 (ts[j]).2.2.1 (ts[j]).2.2.2;omega) fun h' H J M=>hQ h' H ?_ fun b o hb hi e=>M b o hb hi (C b o hb hi e);rw[List.drop_eq_getElem_cons h];exact J
end
end DPr
end
section
namespace DPr
open PySem PyProof.Rows DCp
section
variable{prog:Program}{w:World}{A:Around}{E:Ω}{s:Shared}{K:Type}[DecidableEq K]{knd:KeyKind prog w K}
def oz{L:Addr}{o:Obj}{n:Nat}{ts:List (Pr K)}{Q:Ω}(hh:A.handled=none)(hu:A.units+2<cLine)(G:s.heap.get? L=some o)(hc:o.cls=.type "list")(H:o.data=.seq (ts.map fun x=>Value.ref x.1).toArray n)(W:o.dict=none)(X:∀x∈ts,Good knd s.heap x)(hz:ts.length<=sizeLine)(h:∀h' tk,h'.DictOfH (Bd knd) s⁻¹ (ot [] ts)->(∀b o,b<s⁻¹->s.heap.get? b=some o->h'.get? b=some o)->Q (.ref s⁻¹) {s with heap:=h',toks:=tk}):wpAny (model prog w) A (call (.type "dict") [.ref L]) Q E s:=by
 obtain⟨c,tl,Y⟩:=zL.mro;have ja:=zL.made;have a8:=zL.sub;refine wpAny_call (codeAny_of_tree ?_);show wpAny _ _ (callAny (.type "dict") _) _ _ _;refine Ac ⟨Code.quiet_builtin _ δ,A4 F.entry_type_call ?_⟩;rw[Around.under_plain (weight_type_call_type "dict" [.ref L] []) rfl];have h1:=zL.notType;have h2:=zL.canCreate;have pq:=Lx (.ref L)
 repeat(any_goals(first|assumption|wp_step))
 refine codeAny_mono (LB (.ref L) (E:=E) (Q₁:=fun obj l=>obj=.ref s⁻¹/\l={s with heap:=s.heap.push {cls:=.type "dict",data:=.dict #[]}}) ⟨rfl,rfl⟩) fun r l hr=>?_;cases r with
 |error e=>exact hr
 |ok fl=>
  cases fl with
  |ret obj=>
   obtain⟨rfl,rfl⟩:=hr;have u:(s.heap.push {cls:=.type "dict",data:=.dict #[]}).get? s⁻¹=some {cls:=.type "dict",data:=.dict #[]}:=Ao _ rfl;have v:Shared.TypeIs {s with heap:=s.heap.push {cls:=.type "dict",data:=.dict #[]}} (.ref s⁻¹) "dict":=⟨_,u,rfl⟩;have tF:=zL.init.lookup;have si:=zL.init.bind (.ref s⁻¹)
   repeat(any_goals(first|assumption|wp_step))
   refine codeAny_mono (codeAny_call_builtin (R:=wants (fun r s₂=>r=.none/\∃h' tk,s₂={s with heap:=h',toks:=tk}/\h'.DictOfH (Bd knd) s⁻¹ (ot [] ts)/\
     (∀b o,b<s⁻¹->s.heap.get? b=some o->h'.get? b=some o)) E) zL.init.plain F.entry_dict_init (zL.init.check _ _ _ _ _ _ _ _ v (F.args_dict_init_2 _ _) ?_)) fun J s₂ d=>?_
   ·have y:L<s⁻¹:=Ar G
    have a:(s.heap.push {cls:=.type "dict",data:=.dict #[]}).get? L=some o:=Ad _ G;have U:Shared.TypeIs {s with heap:=s.heap.push {cls:=.type "dict",data:=.dict #[]}} (.ref L) "list":=⟨o,a,hc⟩;unfold Builtin.«dict.__init__»;refine Ab ?_;unfold Builtin.Dict.selfAndRest;refine Ab (wpAny_notOrdered_dict v ?_);refine Ab (show wpAny _ _ (pure s⁻¹) _ _ _ from Ac ?_);refine Ac ?_;show wpAny _ _ (Builtin.Dict.updateCommon "dict.__init__" "dict" s⁻¹ [Value.ref L] []) _ _ _;unfold Builtin.Dict.updateCommon Builtin.Dict.updateFrom;dsimp only;refine Ab (wpAny_typeOf U ?_);rw[if_pos ξ];refine Ab (LG (s:={s with heap:=s.heap.push {cls:=.type "dict",data:=.dict #[]}}) a hc H W hh fun h2 p e2 f=>?_);rw[if_pos (by rfl)];refine Ab (wpAny_rule ?_);have z:h2.IsList L (ts.map fun x=>Value.ref x.1).toArray:=⟨o,f.keeps _ _ a,hc,n,H⟩;refine Ab (wpAny_pyIter_list (s:={s with heap:=h2,toks:=p}) z ?_);have C:h2.get? s⁻¹=some {cls:=.type "dict",data:=.dict #[]}:=f.keeps _ _ u;have g:s⁻¹<h2.objs.size:=Ar C;have i:∀b ob,h2.get? b=some ob->(h2.push {cls:=.type "list_iterator",data:=.fields #[.ref L,.int 0 0]}).get? b=some ob:=fun b ob e=>Ad _ e;have j:∀b ob,s.heap.get? b=some ob->(h2.push {cls:=.type "list_iterator",data:=.fields #[.ref L,.int 0 0]}).get? b=some ob:=fun b ob e=>i _ _ (f.keeps _ _ (Ad _ e));refine Ac ⟨plainId_quiet sh _,?_⟩;refine lB (knd:=knd) (ts:=ts) (L:=L) (D:=s⁻¹) (I:=h2.objs.size) (by exact hh) (by first|exact hu|(show A.units+1<cLine;omega)) (Az g) (Az y) (Az (Nat.lt_trans y g)) ts.length 0 {s with heap:=h2.push {cls:=.type "list_iterator",data:=.fields #[.ref L,.int 0 0]},toks:=p} [] ω (AL _)
     ⟨_,Ao _ rfl,rfl,rfl⟩ (z.at fun ob e=>i _ _ e) (fun x hx=>?_) ⟨_,#[],0,i _ _ C,⟨rfl,rfl,rfl⟩,rfl,rfl,(fun x hx=>nomatch hx),A7⟩ (by simpa using hz) fun h' q dd M=>⟨rfl,h',q,rfl,dd,fun b ob hb e=>M b ob (Az hb) (Az (Nat.lt_trans hb g)) (j _ _ e)⟩
    obtain⟨⟨N,e1,O⟩,P,it,m,e2,S⟩:=X x hx;exact⟨⟨N,j _ _ e1,O⟩,P,it,m,j _ _ e2,S⟩
   ·cases J with
    |error e=>exact d
    |ok fl₂=>
     cases fl₂ with
     |ret r=>
      obtain⟨rfl,h',q,rfl,T,hk'⟩:=d
      repeat(any_goals(first|assumption|wp_step))
      exact h _ _ T hk'
     |_=>exact d.elim
  |_=>exact hr.elim
end
end DPr
namespace L2
open PySem PySem.Spec PyProof.Rows
def sk(kvs:List (List Key×V)):List (List Key×V):=kvs.foldl (fun acc kv=>putK acc kv.1 kv.2) []
section
variable{X:Cx}
def Et:∀(kvs acc:List (List Key×V)),(kvs.foldl (fun acc kv=>putK acc kv.1 kv.2) acc).length<=acc.length+kvs.length
 |[],acc=>by simp
 |kv::r,acc=>by
  rw[List.foldl_cons];have h1:=Et r (putK acc kv.1 kv.2);have h2:=mx acc kv.1 kv.2;rw[An];omega
def oz(hc:X.calm=true)(hu:X.A.units+64<cLine):df X (.type "dict") (fun xs H Q=>∃(l:Addr)(ts:List Addr)(kvs:List (List Key×V)),xs=[.ref l]/\SqL X.K H l (ts.map V.ref)/\
  Paired (fun t(kv:List Key×V)=>∃b,H t=some (.tup [.ref b,kv.2])/\H b=some (.tup (kv.1.map kV))) ts kvs/\∀D,H D=none->Q (.ref D) (upd H D (.dT (sk kvs)))):=by
 intro aa s σ H xs us Q I r h;obtain⟨l,ts,kvs,rfl,hq,hp,q⟩:=h;obtain⟨u,rfl,f⟩:=vals1 r;cases f;obtain⟨a,g,⟨o,n,e1,i,j,p⟩,hz⟩:=I.list hq;obtain rfl:=aQ g;have hl:=AZ hp;have get:∀{ts:List Addr}{kvs:List (List Key×V)},Paired (fun t(kv:List Key×V)=>∃b,H t=some (.tup [.ref b,kv.2])/\H b=some (.tup (kv.1.map kV))) ts kvs->
   ∃ps:List (DPr.Pr Key),ps.map (fun x=>Value.ref x.1)=ts.map Value.ref/\(∀x∈ps,DPr.Good (zo X.prog X.w) s.heap x)/\∀acc(ys:List (List Key×Addr×Value)),KT H acc ys->KT H (kvs.foldl (fun acc kv=>putK acc kv.1 kv.2) acc) (DPr.ot ys ps):=by
  intro ts kvs z
  induction z with
  |nil=>exact⟨[],rfl,(fun x hx=>nomatch hx),fun acc ys k=>k⟩
  |@cons t kv ts kvs hh t' ih=>
   obtain⟨ps,g1,g2,g3⟩:=ih;obtain⟨b,y,hb⟩:=hh;obtain⟨a,C,E,_⟩:=I.tuple (SqT.of (K:=X.K) y);obtain⟨vs,e2,F⟩:∃v,a=[.ref b,v]/\RelV kv.2 v:=by
    cases C with
    |cons ra rb=>
     cases rb with
     |cons rc rd=>
      cases rd;cases ra;exact⟨_,rfl,rc⟩
   subst e2;refine⟨(t,kv.1,b,vs)::ps,by rw[Av,Av,g1],fun x hx=>?_,fun acc ys k=>?_⟩
   ·rcases List.mem_cons.mp hx with rfl|hx
    ·exact⟨E,ij I.hok hb⟩
    ·exact g2 x hx
   ·exact g3 _ _ (k.put kv.1 hb F)
 obtain⟨ps,g1,g2,g3⟩:=get hp;have M:ps.length=kvs.length:=by
  have:=congrArg List.length g1;rw[Aa,Aa] at this;omega
 rw[Aa] at hz;refine DPr.oz (knd:=zo X.prog X.w) (ts:=ps) (n:=n) (I.ok.hd hc) ω e1 i (by rw[g1];exact p) j g2 ω fun h' tk dd d=>?_;have N:=g3 [] [] .nil;have c:H s⁻¹=none:=I.hok.fresh (Ag _);obtain⟨G,es,ep,J,h2,h3,L,O,h5⟩:=dd;refine⟨.ref s⁻¹,_,I.laid (o:=.dT (sk kvs)) (fun b u e=>d b u (Ar e) e) (Ag _) ⟨?_,?_,DPr.ot [] ps,N.keeps fun b ys e=>?_,G,es,ep,J,h2,h3,L,h5⟩,rfl,q _ c⟩
 ·have:=Et kvs []
  unfold sk;simp at this;omega
 ·exact beq_eq_false_iff_ne.mpr (Nat.ne_of_gt I.big)
 ·rw[ab (ze e c)];exact e
end
end L2
end
section
namespace Bar
abbrev Ch:=Nat->Int
structure Pr(p:Int):Prop where
 two:2<=p
 two_way:∀a b,p ∣ a*b->p ∣ a\/p ∣ b
 into:∀w g,¬p ∣ w->∃k:Nat,(k:Int)<p/\p ∣ (k:Int)*w-g
def jB{n:Nat}(h2:2<=n)(h:∀a:Fin n,∀b:Fin n,(a.1*b.1)%n=0->a.1=0\/b.1=0)(hi:∀w:Fin n,∀g:Fin n,w.1=0\/∃k:Fin n,(k.1*w.1)%n=g.1):Pr (n:Int):=by
 have fin:∀a:Int,∃x:Fin n,(x.1:Int)=a%n:=fun a=>by
  have c:0<=a%(n:Int):=Int.emod_nonneg _ ω;have h1:a%(n:Int)<n:=Int.emod_lt_of_pos _ ω;exact⟨⟨(a%(n:Int)).toNat,ω⟩,by simp only;omega⟩
 refine⟨ω,fun a b hd=>?_,fun w g hw=>?_⟩
 ·obtain⟨x,hx⟩:=fin a
  obtain⟨y,hy⟩:=fin b;have e:(a*b)%(n:Int)=0:=Int.emod_eq_zero_of_dvd hd;rw[Int.mul_emod,<-hx,<-hy] at e;have e2:(x.1*y.1)%n=0:=by exact_mod_cast e
  rcases h x y e2 with z|z
  ·left
   refine Int.dvd_of_emod_eq_zero ?_;rw[<-hx,z];rfl
  ·right
   refine Int.dvd_of_emod_eq_zero ?_;rw[<-hy,z];rfl
 ·obtain⟨x,hx⟩:=fin w
  obtain⟨y,hy⟩:=fin g;rcases hi x y with z|⟨k,hk⟩
  ·refine absurd (Int.dvd_of_emod_eq_zero ?_) hw
   rw[<-hx,z];rfl
  ·refine⟨k.1,by exact_mod_cast k.2,?_⟩
   refine Int.dvd_of_emod_eq_zero ?_;have e:((k.1:Int)*w)%n=g%n:=by
    rw[Int.mul_emod,<-hx,<-hy,<-hk]
    push_cast
    rw[Int.mul_emod,Int.emod_emod,<-Int.mul_emod]
   rw[Int.sub_emod,e,Int.sub_self]
   rfl
def LI:Pr 2:=jB (n:=2) ξ ξ ξ
def LJ:Pr 3:=jB (n:=3) ξ ξ ξ
def LK:Pr 5:=jB (n:=5) ξ ξ ξ
def LL:Pr 7:=jB (n:=7) ξ ξ ξ
def Z(p:Int)(f:Ch):Prop:=∀u,p ∣ f u
def Yg(p:Int)(f:Ch)(t:Nat):Prop:=¬p ∣ f t/\∀u,t<u->p ∣ f u
def Bl(p:Int)(f:Ch)(T:Nat):Prop:=∀u,T<=u->p ∣ f u
abbrev eF(f:Ch)(a:Int)(g:Ch):Ch:=fun u=>f u-a*g u
def oA{p a x y:Int}(h:p ∣ x)(k:p ∣ y):p ∣ x-a*y:=Int.dvd_sub h (Int.dvd_trans k (Int.dvd_mul_left _ _))
def LM{p a x y:Int}(h:p ∣ x-a*y)(k:p ∣ y):p ∣ x:=by
 have:=Int.dvd_add h (Int.dvd_trans k (Int.dvd_mul_left a y))
 rwa [Int.sub_add_cancel] at this
def Yg.uniq{p:Int}{f:Ch}{a b:Nat}(h:Yg p f a)(k:Yg p f b):a=b:=by
 rcases Nat.lt_trichotomy a b with z|z|z
 ·exact absurd (h.2 b z) k.1
 ·exact z
 ·exact absurd (k.2 a z) h.1
def Yg.not_z{p:Int}{f:Ch}{a:Nat}(h:Yg p f a):¬Z p f:=fun z=>h.1 (z a)
def Sp(p:Int):List (Nat×Ch)->Ch->Prop
 |[],f=>Z p f
 |r::L,f=>∃a,Sp p L (eF f a r.2)
def yw{p:Int}:∀{L:List (Nat×Ch)}{f g:Ch},(∀u,p ∣ f u-g u)->Sp p L g->Sp p L f
 |[],f,g,h,hg=>fun u=>by
  have:=Int.dvd_add (h u) (hg u)
  rwa [Int.sub_add_cancel] at this
 |r::L,f,g,h,⟨a,hg⟩=>⟨a,yw (fun u=>by
   have e:eF f a r.2 u-eF g a r.2 u=f u-g u:=by show f u-a*r.2 u-(g u-a*r.2 u)=_;omega
   rw[e];exact h u) hg⟩
def oB{p:Int}:∀{L:List (Nat×Ch)}{f:Ch},Z p f->Sp p L f
 |[],f,h=>h
 |r::L,f,h=>⟨0,oB fun u=>by show p ∣ f u-0*r.2 u;rw[Int.zero_mul,Int.sub_zero];exact h u⟩
def yx{p:Int}{r:Nat×Ch}{L:List (Nat×Ch)}{f:Ch}(h:Sp p L f):Sp p (r::L) f:=
 ⟨0,yw (fun u=>by
  have e:eF f 0 r.2 u-f u=0:=by show f u-0*r.2 u-f u=0;rw[Int.zero_mul];omega
  rw[e];exact AE _) h⟩
def sp_yg{p:Int}(P:Pr p):∀{L:List (Nat×Ch)},(L.map (·.1)).Nodup->(∀r∈L,Yg p r.2 r.1)->∀{f:Ch},Sp p L f->Z p f\/∃r∈L,Yg p f r.1
 |[],_,_,f,h=>.inl h
 |r::L,c,hy,f,⟨a,h⟩=>by
  rw[Av,List.nodup_cons] at c;have hr:=hy r (.head _);have back:∀u,f u=eF f a r.2 u+a*r.2 u:=fun u=>by show f u=f u-a*r.2 u+a*r.2 u;omega
  rcases sp_yg P c.2 (fun q hq=>hy q (.tail _ hq)) h with z|⟨q,hq,z⟩
  ·by_cases b:p ∣ a
   ·left
    intro u;rw[back u];exact Int.dvd_add (z u) (Int.dvd_trans b (Int.dvd_mul_right _ _))
   ·right
    refine⟨r,.head _,fun e=>?_,fun u hu=>?_⟩
    ·have:p ∣ a*r.2 r.1:=by
      have:=Int.dvd_sub e (z r.1)
      rwa [show f r.1-eF f a r.2 r.1=a*r.2 r.1 from by rw[back r.1];omega] at this
     rcases P.two_way _ _ this with k|k
     ·exact b k
     ·exact hr.1 k
    ·rw[back u]
     exact Int.dvd_add (z u) (Int.dvd_trans (hr.2 u hu) (Int.dvd_mul_left _ _))
  ·have d:q.1≠r.1:=fun e=>c.1 (e▸List.mem_map_of_mem hq)
   by_cases b:p ∣ a
   ·right
    refine⟨q,.tail _ hq,fun e=>z.1 ?_,fun u hu=>?_⟩
    ·exact dvd_of e b
    ·rw[back u]
     exact Int.dvd_add (z.2 u hu) (Int.dvd_trans b (Int.dvd_mul_right _ _))
   ·rcases Nat.lt_or_gt_of_ne d with lt|lt
    ·right
     refine⟨r,.head _,fun e=>?_,fun u hu=>?_⟩
     ·have k:=Int.dvd_sub e (z.2 r.1 lt)
      rw[show f r.1-eF f a r.2 r.1=a*r.2 r.1 from by rw[back r.1];omega] at k;rcases P.two_way _ _ k with k|k
      ·exact b k
      ·exact hr.1 k
     ·rw[back u]
      exact Int.dvd_add (z.2 u ω) (Int.dvd_trans (hr.2 u hu) (Int.dvd_mul_left _ _))
    ·right
     refine⟨q,.tail _ hq,fun e=>z.1 (oA e (hr.2 q.1 lt)),fun u hu=>?_⟩;rw[back u];exact Int.dvd_add (z.2 u hu) (Int.dvd_trans (hr.2 u ω) (Int.dvd_mul_left _ _))
where
 dvd_of {p a x y:Int} (e:p ∣ x) (b:p ∣ a):p ∣ x-a*y:=Int.dvd_sub e (Int.dvd_trans b (Int.dvd_mul_right _ _))
structure Sm(p:Int)(S:Ch->Ch):Prop where
 lin:∀f a g u,S (eF f a g) u=S f u-a*S g u
 z:∀{f},Z p f->Z p (S f)
structure Row where
 b:Nat
 d:Option Nat
 r:Ch
 g:Ch
structure LN(p:Int)(S:Ch->Ch)(T:Nat)(x:Row):Prop where
 born:x.b<T
 yg:Yg p x.r x.b
 cyc:Z p (S x.r)
 gone:∀t,x.d=some t->t<T/\x.b<t/\Yg p x.g t/\∀u,p ∣ S x.g u-x.r u
structure Rows(p:Int)(S:Ch->Ch)(T:Nat)(L:List Row):Prop where
 ok:∀x∈L,LN p S T x
 nd:(L.map (·.b)).Nodup
 all:∀t,t<T->(∃x∈L,x.b=t)\/∃x∈L,x.d=some t
 one:∀x∈L,∀y∈L,y.d≠some x.b
 two:∀x∈L,∀y∈L,∀t,x.d=some t->y.d=some t->x=y
def dl(t:Nat)(L:List Row):List (Nat×Ch):=(L.filter fun x=>match x.d with|some d=>decide (d<t)|none=>false).map fun x=>(x.b,x.r)
structure WO(p:Int)(S:Ch->Ch)(T:Nat)(left fill:Ch):Prop where
 sm:∀u,p ∣ S fill u-left u
 yg:Yg p fill T
 bl:Bl p left T
def WO.closed{p:Int}{S:Ch->Ch}{T:Nat}{l f:Ch}(W:WO p S T l f)(a:Sm p S)(b:Z p (S (S f))):Z p (S l):=fun u=>by
 have h:=a.z (f:=eF (S f) 1 l) (fun u=>by show p ∣ S f u-1*l u;rw[Int.one_mul];exact W.sm u) u;rw[a.lin,Int.one_mul] at h;have:=Int.dvd_sub (b u) h
 rwa [show S (S f) u-(S (S f) u-S l u)=S l u from ω] at this
def WO.step{p:Int}{S:Ch->Ch}(c:Sm p S){T:Nat}{L:List Row}(R:Rows p S T L){l f:Ch}(W:WO p S T l f){x:Row}{d:Nat}(hx:x∈L)(hd:x.d=some d)(hy:Yg p l x.b){k:Int}(hk:p ∣ k*x.r x.b-l x.b):WO p S T (eF l k x.r) (eF f k x.g)/\Bl p (eF l k x.r) x.b:=by
 have o:=R.ok x hx;obtain⟨g1,g2,g3,g4⟩:=o.gone d hd;refine⟨⟨fun u=>?_,⟨fun z=>W.yg.1 (LM z (g3.2 T g1)),fun u hu=>oA (W.yg.2 u hu) (g3.2 u ω)⟩,fun u hu=>oA (W.bl u hu) (o.yg.2 u (by have:=o.born;omega))⟩,fun u hu=>?_⟩
 ·rw[c.lin]
  have:=oA (a:=k) (W.sm u) (g4 u)
  rwa [show S f u-l u-k*(S x.g u-x.r u)=S f u-k*S x.g u-eF l k x.r u from by show _=S f u-k*S x.g u-(l u-k*x.r u);rw[Int.mul_sub];omega] at this
 ·rcases Nat.eq_or_lt_of_le hu with rfl|hu
  ·have:=Int.dvd_neg.mpr hk
   rwa [show -(k*x.r x.b-l x.b)=eF l k x.r x.b from by show _=l x.b-k*x.r x.b;omega] at this
  ·exact oA (hy.2 u hu) (o.yg.2 u hu)
def cat(a:Ξ)(F:List Int->Int):Ch:=fun u=>match a[u]? with
 |some x=>F x
 |none=>0
def hU{a:Ξ}{F:List Int->Int}{u:Nat}{x:List Int}(h:a[u]?=some x):cat a F u=F x:=by unfold cat;rw[h]
def oD{a:Ξ}{F:List Int->Int}{u:Nat}(h:a.length<=u):cat a F u=0:=by unfold cat;rw[List.getElem?_eq_none h]
def sm(a:Ξ)(tau:List Int->List Int->Int)(f:Ch):Ch:=fun u=>match a[u]? with
 |some y=>(a.zipIdx.map fun q=>f q.2*tau q.1 y).sum
 |none=>0
def mP{a:Ξ}{q:List Int×Nat}(h:q∈a.zipIdx):a[q.2]?=some q.1:=by
 have:=List.mem_zipIdx_iff_getElem? (x:=q) (l:=a);exact this.mp h
end Bar
end
section
namespace L2
open PySem PySem.Spec PyProof.Rows
def Cl(P:Program)(w:World)(K:Af)(mg:Str->Option Value)(base:Heap)(CX:eu)(x:Str)(ps:List Str)(k:Nat)(sp:Sp):Prop:=
 ∃(f:Addr)(fd:FuncData),PySem.W.keepIn K (.ref f)=true/\Binds K fd ps []/\mg x=some (.ref f)/\FnOk P w K mg base CX k f fd ps sp
section
variable{X:Cx}{CX:eu}{k n:Nat}{ps:List Str}{sp:Sp}{E:XK}{x:Str}{p pos:Pos}{e:Expr}{es:List Expr}{t:TA}
def dM(C:Cl X.prog X.w X.K X.mg X.base CX x ps k sp)(hr:Room n X.A)(b:Gl X x)(hx:dq CX X E)(c:PA X (e::es) t)(d:k<=n:=by decide)(g:(x==("__debug__":Str))=false:=by decide)
  (he:starEach (e::es) X.env=(false,eval e X.env)::starEach es X.env:=by rfl) (a:(backTo pos (starEach es X.env)).any (·.1)=false:=by rfl):PE X (.Call (.Name x p) (e::es) [] pos) (pC sp [] E t):=by
 obtain⟨f,fd,hk,hb,hm,F⟩:=C;exact zn F (hr.mono d) b hm hk hb .nil hx c g he a
end
section
variable{P:Program}{w:World}{K:Af}{mg:Str->Option Value}{base:Heap}{CX:eu}{k:Nat}{f:Addr}{fd:FuncData}{x:Str}{st:Stmt}{ps:List Str}{sp sq:Sp}
def FnOk.or(F:FnOk P w K mg base CX k f fd ps sp)(G:FnOk P w K mg base CX k f fd ps sq):FnOk P w K mg base CX k f fd ps (fun vs H Q E=>sp vs H Q E\/sq vs H Q E):=
 ⟨fun vs H Q E h=>h.elim (F.len vs H Q E) (G.len vs H Q E),fun A outer s H args us vs Q E hr he hb a h=>h.elim (F.run A outer s H args us vs Q E hr he hb a) (G.run A outer s H args us vs Q E hr he hb a)⟩
def eG(F:Fun K x x st f fd)(b:Binds K fd ps [])(m:mg x=some (.ref f))(G:FnOk P w K mg base CX k f fd ps sp):Cl P w K mg base CX x ps k sp:=⟨f,fd,F.kp,b,m,G⟩
structure Df(K:Af)(x:Str)(st:Stmt)(f:Addr):Prop where
 ex:∃fd,Fun K x x st f fd
 a:PySem.W.nsIn K mainGlobals x=some (some (.ref f))
def yy{h:Value}{i e:Option Addr}{g:Array (Option Value)}{kV b d cdv ct:Value}(a:PySem.W.nsIn K mainGlobals x=some (some (.ref f)))(l:K.lookup f=some ⟨h,i,.func (PySem.W.fnOf x x (zbV st) (zaW st) (zh st) .none kV b d e cdv ct),g⟩)(c:PySem.W.codeIn K cdv x=true)(k:PySem.W.keepIn K (.ref f)=true):Df K x st f:=⟨⟨_,Hg l c k⟩,a⟩
structure Nn(K:Af)(x:Str)(v:Option Value):Prop where
 e:PySem.W.nsIn K mainGlobals x=some v
abbrev BA(x:Str)(st:Stmt)(us:List Value)(r:List (Str×Value)):Prop:=∀(kV bC pm:Value)(an:Option Addr)(cdv ct:Value),bindArgs (PySem.W.fnOf x x (zbV st) (zaW st) (zh st) .none kV bC pm an cdv ct) ⟨us,[]⟩=pure r
variable{h:Heap}(X:K.In h)(G:h.Ns mainGlobals mg)
include X G
theorem Nn.m{v:Value}(n:Nn K x (some v)):mg x=some v:=PySem.W.mg_of X G n.e
theorem Nn.n(n:Nn K x none):mg x=none:=PySem.W.mg_none_of X G n.e
theorem Df.m(D:Df K x st f):mg x=some (.ref f):=PySem.W.mg_of X G D.a
theorem Df.g1(D:Df K x st f)(p:Str)(hb:∀a,BA x st [a] [(p,a)]:=by exact fun _ _ _ _ _ _ _=>rfl):∃fd,Fun K x x st f fd/\Binds K fd [p] []/\mg x=some (.ref f):=by
 obtain⟨⟨fd,F⟩,a⟩:=D;refine⟨fd,F,F.binds fun _ _ _ _ _ _ us hl=>?_,PySem.W.mg_of X G a⟩
 match us,hl with
 |[a],_=>exact hb a _ _ _ _ _ _
theorem Df.g2(D:Df K x st f)(p q:Str)(hb:∀a b,BA x st [a,b] [(p,a),(q,b)]:=by exact fun _ _ _ _ _ _ _ _=>rfl):∃fd,Fun K x x st f fd/\Binds K fd [p,q] []/\mg x=some (.ref f):=by
 obtain⟨⟨fd,F⟩,a⟩:=D;refine⟨fd,F,F.binds fun _ _ _ _ _ _ us hl=>?_,PySem.W.mg_of X G a⟩
 match us,hl with
 |[a,b],_=>exact hb a b _ _ _ _ _ _
theorem Df.g3(D:Df K x st f)(p q r:Str)(hb:∀a b c,BA x st [a,b,c] [(p,a),(q,b),(r,c)]:=by exact fun _ _ _ _ _ _ _ _ _=>rfl):∃fd,Fun K x x st f fd/\Binds K fd [p,q,r] []/\mg x=some (.ref f):=by
 obtain⟨⟨fd,F⟩,a⟩:=D;refine⟨fd,F,F.binds fun _ _ _ _ _ _ us hl=>?_,PySem.W.mg_of X G a⟩
 match us,hl with
 |[a,b,c],_=>exact hb a b c _ _ _ _ _ _
theorem Df.g4(D:Df K x st f)(p q r s:Str)(hb:∀a b c d,BA x st [a,b,c,d] [(p,a),(q,b),(r,c),(s,d)]:=by exact fun _ _ _ _ _ _ _ _ _ _=>rfl):∃fd,Fun K x x st f fd/\Binds K fd [p,q,r,s] []/\mg x=some (.ref f):=by
 obtain⟨⟨fd,F⟩,a⟩:=D;refine⟨fd,F,F.binds fun _ _ _ _ _ _ us hl=>?_,PySem.W.mg_of X G a⟩
 match us,hl with
 |[a,b,c,d],_=>exact hb a b c d _ _ _ _ _ _
theorem Df.g5(D:Df K x st f)(p q r s u:Str)(hb:∀a b c d e,BA x st [a,b,c,d,e] [(p,a),(q,b),(r,c),(s,d),(u,e)]:=by exact fun _ _ _ _ _ _ _ _ _ _ _=>rfl):∃fd,Fun K x x st f fd/\Binds K fd [p,q,r,s,u] []/\mg x=some (.ref f):=by
 obtain⟨⟨fd,F⟩,a⟩:=D;refine⟨fd,F,F.binds fun _ _ _ _ _ _ us hl=>?_,PySem.W.mg_of X G a⟩
 match us,hl with
 |[a,b,c,d,e],_=>exact hb a b c d e _ _ _ _ _ _
omit X G
end
end L2
end
section
namespace Dk
open PySem PySem.Spec PyProof.Rows
end Dk
namespace L2
open PySem PySem.Spec PyProof.Rows
section
variable{X:Cx}
def Eu(tk tv:TE):TE:=fun σ H Q=>∀p,H p=none->vz [(tk,tv)] σ (upd H p (.dT [])) fun ps H2=>∃b k v,ps=[(.ref b,v)]/\H2 p=some (.dT [])/\H2 b=some (.tup (List.map kV k))/\Q (.ref p) (upd H2 p (.dT [(k,v)]))
def LO{j l:Expr}{pos:Pos}{tk tv:TE}(hu:X.A.units+1<cLine)(hk:PE X j tk)(D:PE X l tv):PE X (.Dict [some j] [l] pos) (Eu tk tv):=by
 intro aa s σ H Q I q;have hn:=I.hok.fresh (Ag s⁻¹);have E:=I.laid (a:=s⁻¹) (o:=.dT []) (h':=s.heap.push {cls:=.type "dict",data:=.dict #[]}) (t':=s.toks) (fun _ _ q=>Ad _ q) (Ag _) (BX s.heap I.big);refine wpAny_Dict_any rfl rfl (by simp) (by simp) (aP (G_ hk D G9 aa _ σ _ _ E (q _ hn)) fun F G ⟨ps,H2,I2,d,b,k,v,ep,e,f,p⟩=>?_);subst ep;cases d with
 |@cons p' w0 fS pP h t=>
  cases t;obtain⟨u,J⟩:=w0;obtain⟨x,y⟩:=h;cases(show u=Value.ref b from x);obtain⟨z,hd,xs,d,dd⟩:=vl I2.hok e;cases d;unfold storeAll;rw[List.forIn_cons];refine Ab (Ab (wpAny_dictSet_heap (hsz:=AL _) (knd:=Bd (zo X.prog X.w)) (by show X.A.units<cLine;omega) (ij I2.hok f) dd fun h' r hs=>Ac ?_));show wpAny _ _ (forIn _ _ _) _ _ _;rw[List.forIn_nil];refine Ac ⟨.ref s⁻¹,_,?_,rfl,p⟩;obtain⟨i,es,ep,hq,h2,h3,C,_,h5⟩:=r;refine kY I2 (by rw[e];exact True.intro) hs ⟨i,hq⟩ ⟨by show 1<=sizeLine;rw[sizeLine_eq];omega,hd,_,(KT.put (kvs:=[]) .nil k f y).keeps fun c ys g=>?_,i,es,ep,hq,h2,h3,C,h5⟩;rw[ab (aF g e (fun z=>nomatch z))];exact g
end
end L2
end
section
namespace L2
open PySem PySem.Spec PyProof.Rows
def Ev{P:Program}{w:World}{H:Hp}{h:Heap}{a:Addr}{kvs:List (List Key×V)}{pss:Ξ}(ok:HOk P w H h)(hq:Rd H a (.dT kvs))(hp:kvs.map (·.1)=pss.map (·.map Sum.inl)):(a==Be)=false/\∃xs:List (List Int×Addr×Value),(∀u d,h.DictOfH (Bd (intKind u d)) a xs)/\xs.length=kvs.length/\∀(i:Nat) x,xs[i]?=some x->pss[i]?=some x.1/\∃kv,kvs[i]?=some kv/\RelV kv.2 x.2.2:=by
 obtain⟨z,y,ys,g,o,es,ep,h1,h2,h3,v,h5⟩:=(show zJ P w H h a (.dT kvs) from hq.ok ok);have key:∀{l:List (List Key×V)}{m:List (List Key×Addr×Value)}{c:Ξ},KT H l m->l.map (·.1)=c.map (·.map Sum.inl)->
   ∃xs:List (List Int×Addr×Value),m=xs.map (fun x=>(x.1.map Sum.inl,x.2))/\xs.map (·.1)=c/\(∀x∈xs,Tp H x.2.1 x.1)/\xs.length=l.length/\∀(i:Nat) x,xs[i]?=some x->c[i]?=some x.1/\∃kv,l[i]?=some kv/\RelV kv.2 x.2.2:=by
  intro l m c q
  induction q generalizing c with
  |nil=>intro e;cases c with
   |nil=>exact⟨[],rfl,rfl,(fun x hx=>by cases hx),rfl,(fun i x e=>by simp at e)⟩
   |cons p ps=>simp at e
  |@cons p q' ps pP hq t ih=>intro e;cases c with
   |nil=>simp at e
   |cons r rs=>
    simp only[Av,List.cons.injEq] at e;obtain⟨xs,e1,e2,e3,j,s⟩:=ih e.2;have hk:=hq.2.1;rw[e.1,Ap] at hk;refine⟨(r,q'.2)::xs,?_,by rw[Av,e2],fun x hx=>?_,by simp[j],fun i x ex=>?_⟩
    ·rw[Av,<-e1,<-e.1,hq.1]
    ·rcases List.mem_cons.mp hx with rfl|hx
     ·exact hk
     ·exact e3 x hx
    ·cases i with
     |zero=>
      simp at ex;subst ex;exact⟨rfl,p,rfl,hq.2.2⟩
     |succ i=>simpa using s i x (by simpa using ex)
 obtain⟨xs,e1,e2,e3,j,s⟩:=key g hp;refine⟨y,xs,fun u d=>⟨o,es,ep,h1,h2,h3,?_,fun x hx=>?_,?_⟩,j,s⟩
 ·rw[v,e1,Ap]
  refine AJ fun x _=>?_;show DictEntry.mk (Aw (zo P w) (x.1.map Sum.inl)) (.ref x.2.1) x.2.2=DictEntry.mk (Aw (intKind u d) x.1) (.ref x.2.1) x.2.2;rw[LC]
  rfl
 ·obtain⟨_,D,r,p⟩:=(show zJ P w H h x.2.1 (.tup (x.1.map V.int)) from ok x.2.1 _ (e3 x hx))
  exact CQ p (intsAre_of r)
 ·have A:xs.map (fun x=>x.1.map (Sum.inl:Int->Key))=(xs.map (·.1)).map (·.map Sum.inl):=by rw[Ap];rfl
  rw[e1,Ap] at h5;have C:((xs.map (·.1)).map (·.map (Sum.inl:Int->Key))).Nodup:=by rw[<-A];exact h5
  exact List.Pairwise.of_map _ (fun a b f e=>f (by rw[e])) C
end L2
end
section
namespace DEq
open PySem
section
variable{prog:Program}{w:World}{K:Type}[DecidableEq K]{knd:HeapKind prog w K}{A:Around}{E:Ω}{s:Shared}
def LP{id:String}{a b:Addr}{xs ys:List (K×Addr×Value)}{Q:Bool->Shared->Prop}(hu:knd.room A)(W:(a==Be)=false)(hb:(b==Be)=false)(hx:s.heap.DictOfH knd a xs)(hy:s.heap.DictOfH knd b ys)(hl:xs.length=ys.length)(X:∀(i:Nat) k p v,xs[i]?=some (k,p,v)->∃(j:Nat)(q:Addr)(n:Int)(t t':Tok),v=.int n t/\ys[j]?=some (k,q,.int n t'))(h:Q true s):wpAny (model prog w) A (Builtin.Dict.samePairs id a b) Q E s:=by
 obtain⟨oa,c,pa,g,uG,l,G,M,kl⟩:=hx;obtain⟨ob,N,pb,o,bZ,u,z,O,H⟩:=hy;have I:=size_of_entries (knd:=knd) G;have T:=size_of_entries (knd:=knd) z;unfold Builtin.Dict.samePairs Builtin.Dict.showsAll;rw[if_neg (by rw[W];exact At),if_neg (by rw[hb];exact At)];refine Ab (Ac (Ab (Ac ?_)));refine Ab (wpAny_dictEntries g l ?_);dsimp only;refine Ab (wpAny_dictEntries o u ?_);rw[if_neg (by rw[I,T,hl];simp)];refine Ab (wpAny_dictEpoch g l ?_);refine Ab ?_;rw[Std.Legacy.Range.forIn_eq_forIn_range'];simp only[Std.Legacy.Range.size,Nat.sub_zero,Nat.add_sub_cancel,Nat.div_one];refine wpAny_forIn_list _ (fun rest r s'=>s'=s/\r.1=none/\∃i,rest=List.range' i (c.size-i)/\i<=c.size) _ ?_ ?_ _ _ ⟨rfl,rfl,0,by simp,AL _⟩
 ·rintro x rest r s' ⟨rfl,d,i,hr,hi⟩
  have f:i<c.size:=by
   rcases Nat.lt_or_ge i c.size with h|h
   ·exact h
   ·rw[Nat.sub_eq_zero_of_le h] at hr;simp at hr
  obtain⟨rfl,P⟩:x=i/\rest=List.range' (i+1) (c.size-(i+1)):=by
   have e:c.size-i=(c.size-(i+1))+1:=ω
   rw[e,List.range'_succ] at hr;injection hr with h1 h2
   exact⟨h1,h2⟩
  obtain⟨⟨k,p,v⟩,C⟩:∃y,xs[x]?=some y:=⟨xs[x]'(by rw[<-I];exact f),Ae _⟩;obtain⟨S,q,n,t,t',rfl,D⟩:=X x k p v C;have hex:c[x]?=some ⟨knd.hash k,.ref p,.int n t⟩:=by rw[entry_at G x,C];rfl
  have F:knd.is s'.heap k p:=M _ (Al C);refine Ab (wpAny_dictEntries g l ?_);rw[hex];dsimp only;refine Ab (AM (Ab (wpAny_dictFind_heap hu F o u z O H (fun J=>absurd D (J S _)) fun j Y L=>?_)));obtain rfl:=idxH_unique H L D;dsimp only;refine Ab (wpAny_dictEntries o u ?_);have U:N[j]?=some ⟨knd.hash k,.ref q,.int n t'⟩:=by rw[entry_at z j,D];rfl
  rw[U];dsimp only;refine AM (wpAny_eqBool_int ?_);rw[if_neg (by simp)];refine Ab (wpAny_dictEpoch g l ?_);rw[if_neg (by simp)];exact Ac ⟨rfl,rfl,x+1,P,f⟩
 ·rintro⟨r1,r2⟩ s' ⟨rfl,d,_⟩
  simp only at d;subst d;exact Ac h
def LQ{id:String}{a b:Addr}{xs ys:List (K×Addr×Value)}{Q:Bool->Shared->Prop}(o:(a==Be)=false)(hb:(b==Be)=false)(hx:s.heap.DictOfH knd a xs)(hy:s.heap.DictOfH knd b ys)(hl:xs.length≠ys.length)(h:Q false s):wpAny (model prog w) A (Builtin.Dict.samePairs id a b) Q E s:=by
 obtain⟨p,q,r,c,u,d,e,v,x⟩:=hx;obtain⟨ob,y,z,f,C,g,i,D,F⟩:=hy;have j:=size_of_entries (knd:=knd) e;have l:=size_of_entries (knd:=knd) i;unfold Builtin.Dict.samePairs Builtin.Dict.showsAll;rw[if_neg (by rw[o];exact At),if_neg (by rw[hb];exact At)];refine Ab (Ac (Ab (Ac ?_)));refine Ab (wpAny_dictEntries c d ?_);dsimp only;refine Ab (wpAny_dictEntries f g ?_);rw[if_pos (by rw[j,l];simpa using hl)];exact Ab (wpAny_rule (Ac h))
def LR{a b:Addr}{r:Bool}{Q:Ω}(c:A.units<cLine)(hx:s.TypeIs (.ref a) "dict")(hy:s.TypeIs (.ref b) "dict")(hs:∀(id:String)(R:Bool->Shared->Prop)(d:Ω)(A':Around),A'.units<=A.units+8->R r s->wpAny (model prog w) A' (Builtin.Dict.samePairs id a b) R d s)(h:Q (.bool (!r)) s):wpAny (model prog w) A (compareOp .NotEq (.ref a) (.ref b)) Q E s:=by
 show wpAny _ _ (richCompare .NotEq (.ref a) (.ref b)) _ _ _;refine wpAny_richCompare_same_room (op:=.NotEq) hx hy F.slot_dict_ne (wpAny_call_entry F.slot_dict_ne hx F.entry_dict_ne ?_ (F.args_dict_ne_2 _ _)) c;unfold Builtin.«dict.__ne__»
 wp_delta
 refine Ab ?_;unfold Builtin.Dict.dictSlotArgs;refine Ab (wpAny_notOrdered_dict hx ?_);refine Ab (show wpAny _ _ (pure (Value.ref a,[Value.ref b])) _ _ _ from Ac ?_);refine Ac ?_;dsimp only;refine Ab (wpAny_isInstance hy DCp.Eo ?_);simp only[Bool.not_true,Au,if_false];refine Ab (show wpAny _ _ (pure a) _ _ _ from Ac ?_);refine Ab (show wpAny _ _ (pure b) _ _ _ from Ac ?_);refine Ab (hs _ _ _ _ (by show A.units+1<=_;omega) ?_);refine Ac ⟨_,rfl,(fun e=>nomatch e),?_⟩;cases r<;>exact h
end
end DEq
namespace L2
open PySem PySem.Spec PyProof.Rows
def eV(H:Hp)(a b:Addr)(r:Bool):Prop:=∃(kvs c:List (List Key×V))(pss d:Ξ)(e:List Int),Rd H a (.dT kvs)/\Rd H b (.dT c)/\kvs.map (·.1)=pss.map (·.map Sum.inl)/\c.map (·.1)=d.map (·.map Sum.inl)/\kvs.map (·.2)=e.map V.int/\
 ((r=true/\kvs.length=c.length/\∀kv∈kvs,kv∈c)\/(r=false/\kvs.length≠c.length))
section
variable{X:Cx}
def LS{aa:Ψ}{s:Shared}{σ:St}{H:Hp}{a b:Addr}{r:Bool}(I:Inv X aa σ H s)(hu:X.A.units+64<cLine)(h:eV H a b r):s.TypeIs (.ref a) "dict"/\s.TypeIs (.ref b) "dict"/\
  ∀(id:String)(R:Bool->Shared->Prop)(y:Ω)(A':Around),A'.units<=X.A.units+8->R r s->wpAny (model X.prog X.w) A' (Builtin.Dict.samePairs id a b) R y s:=by
 obtain⟨kvs,Q,pss,S,z,C,hb,hp,l,D,hc⟩:=h;obtain⟨o,xs,c,T,E⟩:=Ev I.hok C hp;obtain⟨q,ys,d,bl,F⟩:=Ev I.hok hb l;refine⟨(c X.prog X.w).typeIs,(d X.prog X.w).typeIs,fun id R y A' P hR=>?_⟩;rcases hc with ⟨rfl,hl,hm⟩|⟨rfl,hl⟩
 ·refine DEq.LP (knd:=Bd (intKind X.prog X.w)) (show A'.units<cLine from ω) o q (c _ _) (d _ _) ω (fun i k p v e=>?_) hR
  obtain⟨g1,kv,g2,g3⟩:=E i _ e;obtain⟨j,f⟩:=List.getElem?_of_mem (hm kv (Al g2));have L:j<ys.length:=by have:=(List.getElem?_eq_some_iff.mp f).1;omega
  have x:ys[j]?=some ys[j]:=Ae L;obtain⟨f1,U,f2,u⟩:=F j ys[j] x;rw[f] at f2;obtain rfl:=Am f2;have M:kv.1=k.map Sum.inl:=by
   have:=congrArg (·[i]?) hp;simp only[Ak,g2,g1,Option.map_some,Option.some.injEq] at this;exact this
  have N:kv.1=ys[j].1.map Sum.inl:=by
   have:=congrArg (·[j]?) l;simp only[Ak,f,f1,Option.map_some,Option.some.injEq] at this;exact this
  have O:ys[j].1=k:=fI.mp (N.symm.trans M);have hn:=congrArg (·[i]?) D;simp only[Ak,g2,Option.map_some] at hn;cases en:z[i]? with
  |none=>rw[en] at hn;simp at hn
  |some n=>
   rw[en] at hn;have g:kv.2=V.int n:=by simpa using hn
   rw[g] at g3 u;obtain⟨t,G⟩:=(show ∃t,v=Value.int n t from g3);obtain⟨t',J⟩:=(show ∃t,ys[j].2.2=Value.int n t from u);refine⟨j,ys[j].2.1,n,t,t',G,?_⟩;rw[x,<-O,<-J]
 ·exact DEq.LQ (knd:=Bd (intKind X.prog X.w)) o q (c _ _) (d _ _) ω hR
def Ew(hu:X.A.units+64<cLine):cb X (compareOp .NotEq) (fun x y H Q=>∃a b r,x=.ref a/\y=.ref b/\eV H a b r/\Q (.bl (!r)) H):=by
 intro aa s σ H x y v u Q I c d h;obtain⟨a,b,r,rfl,rfl,hc,q⟩:=h;cases c;cases d;obtain⟨e,f,hs⟩:=LS I hu hc;exact DEq.LR ω e f hs ⟨.bl (!r),H,I,rfl,q⟩
end
end L2
end
section
namespace Dk
open PySem
section
variable{prog:Program}{w:World}{A:Around}{E:Ω}{s:Shared}
def LV(d:Addr)(hd:(d==Be)=false):MeetsIn prog w (Builtin.«dict.__len__» ⟨[.ref d],[]⟩) (fun _ R s=>∃es ep,IsD s.heap d es ep/\R (.ok (.ret (.int es.size s.toks))) {s with toks:=s.toks+1}):=
 .of_wp fun A R s ⟨es,ep,hm,h⟩=>by
  obtain⟨o,a,hc,b⟩:=hm;show wpAny _ _ (dictSize d >>= _) _ _ s;unfold dictSize;refine Ab (Ab (wpAny_dictEntries a b (Ac ?_)));show wpAny _ _ (Builtin.Dict.pendingCount d >>= _) _ _ s;refine Ab (wpAny_pendingCount_other hd ?_);refine wpAny_ret_mkInt ?_;rw[Nat.add_zero];exact h
def BB{d:Addr}{es:Array DictEntry}{ep:Nat}{Q:Ω}(hd:(d==Be)=false)(hm:IsD s.heap d es ep)(a:(es.size:Int)<2 ^ 63)(h:Q (.int es.size (s.toks+1)) {s with toks:=s.toks+1+1}):wpAny (model prog w) A (call (.builtin "len") [.ref d]) Q E s:=by
 refine Calls.call_function_entry kind_len plain_len entry_len (args_len1 _) ?_;unfold Builtin.«len»;refine Ab (m:=oneArg "len" _) (Ac ?_);refine Ab (m:=callSpecial? (.ref d) (Str.ofString "__len__")) (wpAny_callSpecial?_slot (name:=Str.ofString "__len__") hm.typeIs F.slot_dict_len
  (call_meetsIn F.slot_dict_len hm.typeIs F.entry_dict_len (F.args_dict_len_1 _) (LV d hd) ⟨es,ep,hm,?_⟩))
 show wpAny _ _ _ _ _ {s with toks:=s.toks+1};refine Ab (AM (Ac ?_));refine Ab (wpAny_letGo ?_);show wpAny _ _ (if((es.size:Nat):Int)<0 then _ else _) _ _ _;rw[if_neg ω];show wpAny _ _ (if((es.size:Nat):Int) ≥ 2 ^ 63 then _ else _) _ _ _;rw[if_neg ω];exact Ab (wpAny_mkInt (Ac ⟨_,rfl,h⟩))
end
end Dk
namespace L2
open PySem PySem.Spec PyProof.Rows
section
variable{X:Cx}
def LX:df X (.builtin "len") (fun xs H Q=>∃a kvs,xs=[V.ref a]/\Rd H a (.dT kvs)/\Q (.int kvs.length) H):=by
 intro aa s σ H xs us Q I r h;obtain⟨a,kvs,rfl,c,q⟩:=h;obtain⟨u,rfl,d⟩:=vals1 r;cases d;obtain⟨z,y,ys,b,o,es,ep,h1,h2,h3,e,h5⟩:=(show zJ X.prog X.w H s.heap a (.dT kvs) from c.ok I.hok);have hl:es.size=kvs.length:=by
  have:=congrArg List.length e;rw[Aa,<-AZ b] at this
  simpa using this
 refine Dk.BB y ⟨o,h1,h2,h3⟩ (by rw[hl];rw[sizeLine_eq] at z;omega) ⟨.int kvs.length,H,I.tok _,⟨_,by rw[hl]⟩,q⟩
end
end L2
end
section
namespace K50
open K1
open PySem L2 STb
abbrev Ch:Type:=List (List Int×Int)
def ksC(cs:Ch):Ξ:=cs.map (·.1)
def a6(cs:Ch):List (List Key×V):=cs.map fun c=>((c.1.map Sum.inl:List Key),V.int c.2)
def bF(cs:Ch)(ps:List Int)(n:Int):Ch:=if ps∈ksC cs then cs.map (fun c=>if c.1=ps then(c.1,n) else c) else cs++[(ps,n)]
def Ex(cs:Ch):(a6 cs).length=cs.length:=Aa _
def kd(cs:Ch):(ksC cs).length=cs.length:=Aa _
def yz(cs:Ch)(ps:List Int)(n:Int):putK (a6 cs) (ps.map Sum.inl) (.int n)=a6 (bF cs ps n):=by
 unfold putK a6 bF;have a:((cs.map fun c=>((c.1.map Sum.inl:List Key),V.int c.2)).any fun kv=>decide (kv.1=ps.map Sum.inl))=decide (ps∈ksC cs):=by
  rw[List.any_map]
  by_cases h:ps∈ksC cs
  ·rw[decide_eq_true h,List.any_eq_true]
   obtain⟨c,hc,e⟩:=List.mem_map.mp h;exact⟨c,hc,decide_eq_true (fI.mpr e)⟩
  ·rw[decide_eq_false h,List.any_eq_false]
   intro c hc;simp only[Function.comp,decide_eq_true_eq,fI];rintro rfl;exact h (List.mem_map.mpr ⟨c,hc,rfl⟩)
 rw[a]
 by_cases h:ps∈ksC cs
 ·rw[decide_eq_true h,if_pos rfl,if_pos h,Ap,Ap]
  refine AJ fun c hc=>?_;simp only[Function.comp]
  by_cases e:c.1=ps
  ·rw[if_pos e,if_pos (fI.mpr e)]
  ·rw[if_neg e,if_neg (fun z=>e (fI.mp z))]
 ·rw[decide_eq_false h,if_neg (by simp),if_neg h,Ah]
  rfl
def Ey(cs:Ch)(ps:List Int)(n:Int):ksC (bF cs ps n)=if ps∈ksC cs then ksC cs else ksC cs++[ps]:=by
 unfold bF
 by_cases h:ps∈ksC cs
 ·rw[if_pos h,if_pos h]
  unfold ksC;rw[Ap];refine AJ fun c _=>?_;simp only[Function.comp];split<;>rfl
 ·rw[if_neg h,if_neg h]
  unfold ksC;rw[Ah]
  rfl
def Ez{cs:Ch}(ps:List Int)(n:Int)(h:(ksC cs).Nodup):(ksC (bF cs ps n)).Nodup:=by
 rw[Ey]
 by_cases e:ps∈ksC cs
 ·rw[if_pos e];exact h
 ·rw[if_neg e,AU]
  refine⟨h,by simp,fun a c b hb z=>?_⟩;rw[A3] at hb;subst hb;subst z;exact e c
def putC_mem{cs:Ch}{ps q:List Int}{n:Int}(h:q∈ksC (bF cs ps n)):q∈ksC cs\/q=ps:=by
 rw[Ey] at h
 by_cases e:ps∈ksC cs
 ·rw[if_pos e] at h;exact .inl h
 ·rw[if_neg e] at h
  rcases List.mem_append.mp h with h|h
  ·exact .inl h
  ·exact .inr (List.mem_singleton.mp h)
def EA(cs:Ch)(ps:List Int)(n:Int):(bF cs ps n).length<=cs.length+1:=by
 unfold bF;split
 ·rw[Aa];omega
 ·rw[Ai];simp
def kh:∀{cs:Ch},(ksC cs).Nodup->∀c∈cs,aU (a6 cs) (c.1.map Sum.inl)=some (.int c.2)
 |[],_,c,hc=>absurd hc (by simp)
 |d::cs,h,c,hc=>by
  have h':(d.1::ksC cs).Nodup:=h;rw[List.nodup_cons] at h';unfold aU a6;rw[Av,List.find?_cons];rcases List.mem_cons.mp hc with rfl|hc
  ·rw[decide_eq_true rfl];rfl
  ·have a:¬d.1.map Sum.inl=(c.1.map Sum.inl:List Key):=fun z=>h'.1 (by rw[fI.mp z];exact List.mem_map.mpr ⟨c,hc,rfl⟩)
   rw[decide_eq_false a];exact kh h'.2 c hc
def iB{H:Hp}{cs:Ch}{bs:List Addr}(h:Paired (fun(p:List Key×V) b=>H b=some (.tup (p.1.map kV))) (a6 cs) bs):Tps H bs (ksC cs):=by
 unfold a6 at h;unfold ksC
 induction cs generalizing bs with
 |nil=>cases h;exact .nil
 |cons x l ih=>
  rw[Av] at h;cases h with
  |cons r t=>
   refine .cons ?_ (ih t);show H _=_;rw[r,Ap]
   rfl
abbrev dj(c:List Int×Int):Bool:=!decide (V.int c.2=V.int 0)
def yA(H:Hp)(t:Addr)(c:List Int×Int):Prop:=∃b,H t=some (.tup [.ref b,.int c.2])/\Tp H b c.1
def Prs(H:Hp)(ts:List Addr)(cs:Ch):Prop:=Paired (yA H) ts cs
def Prs.same{H H':Hp}{ts:List Addr}{cs:Ch}(h:Prs H ts cs)(s:Same H H'):Prs H' ts cs:=Paired.mapP h fun _ _ ⟨b,e1,e2⟩=>⟨b,s _ _ e1,s.tp e2⟩
def Prs.length{H:Hp}{ts:List Addr}{cs:Ch}(h:Prs H ts cs):ts.length=cs.length:=AZ h
def Prs.upd{H:Hp}{d:Addr}{o o':HO}{ts:List Addr}{cs:Ch}(h:Prs H ts cs)(hd:H d=some o')(hn:∀xs,o'≠.tup xs):Prs (L2.upd H d o) ts cs:=
 Paired.mapP h fun t c ⟨b,e1,e2⟩=>⟨b,by rw[ab (aF e1 hd fun z=>hn _ z.symm)];exact e1,by show L2.upd H d o b=_;rw[ab (aF (show H b=some _ from e2) hd fun z=>hn _ z.symm)];exact e2⟩
def Prs.snoc{H:Hp}{ts:List Addr}{cs:Ch}{t:Addr}{c:List Int×Int}(h:Prs H ts cs)(q:yA H t c):Prs H (ts++[t]) (cs++[c]):=Paired.snoc h q
def Prs.append{H:Hp}{ts us:List Addr}{cs ds:Ch}(h:Prs H ts cs)(q:Prs H us ds):Prs H (ts++us) (cs++ds):=by
 induction h with
 |nil=>exact q
 |cons r t ih=>exact .cons r ih
def Prs.get{H:Hp}:∀{ts:List Addr}{cs:Ch}{i:Nat}{t:Addr},Prs H ts cs->ts[i]?=some t->∃c,cs[i]?=some c/\yA H t c
 |_,_,0,_,.cons h _,e=>by cases e;exact⟨_,rfl,h⟩
 |_,_,i+1,_,.cons _ t,e=>Prs.get (i:=i) t (by simpa using e)
def ak(cs:Ch)(q:List Int):Int:=((cs.find? fun c=>decide (c.1=q)).map (·.2)).getD 0
def EB(cs:Ch)(q:List Int):(aU (a6 cs) (q.map Sum.inl)).getD (.int 0)=.int (ak cs q):=by
 unfold aU ak a6
 induction cs with
 |nil=>rfl
 |cons c r ih=>
  rw[Av,List.find?_cons,List.find?_cons]
  by_cases e:c.1=q
  ·rw[decide_eq_true e,decide_eq_true (fI.mpr e)];rfl
  ·rw[decide_eq_false e,decide_eq_false (fun z=>e (fI.mp z))];exact ih
def iC(acc:Ch)(t:List Int×Int):Ch:=bF acc t.1 (ak acc t.1+t.2)
def be(ts:Ch):Ch:=ts.foldl iC []
def d_(ts:Ch):Ch:=(be ts).filter dj
def so(ts:Ch)(t:List Int×Int):be (ts++[t])=iC (be ts) t:=by unfold be;rw[List.foldl_append];rfl
def sr{b:Type}{P:List b->Prop}(c:P [])(hs:∀l x,P l->P (l++[x]))(l:List b):P l:=by
 have:∀n,∀l:List b,l.length=n->P l:=by
  intro n
  induction n with
  |zero=>intro l hl;rw[AH hl];exact c
  |succ n ih=>
   intro l hl;have a:l≠[]:=fun z=>by rw[z] at hl;simp at hl
   rw[<-List.dropLast_concat_getLast a];exact hs _ _ (ih _ (by rw[List.length_dropLast];omega))
 exact this _ l rfl
def yB(ts:Ch):(ksC (be ts)).Nodup:=sr (P:=fun ts=>(ksC (be ts)).Nodup) A7 (fun l x h=>by rw[so];exact Ez _ _ h) ts
def yC(ts:Ch):(be ts).length<=ts.length:=sr (P:=fun ts=>(be ts).length<=ts.length) (Ag _) (fun l x h=>by
 rw[so,Ai];have:=EA (be l) x.1 (ak (be l) x.1+x.2);unfold iC;simp;omega) ts
def LY{cs:Ch}{q:List Int}(v:Int)(h:q∉ksC cs):bF cs q v=cs++[(q,v)]:=by unfold bF;rw[if_neg h]
def sg(k:Nat)(n:Int):Int:=if(k:Int)%2=0 then n else -n
def bz(ps:List Int)(n:Int):Ch:=(rims ps).zipIdx.map fun q=>(q.1,sg q.2 n)
def yD(ps:List Int)(n:Int):(bz ps n).length=(rims ps).length:=by unfold bz;rw[Aa,List.length_zipIdx]
def zN(c:List Int×Int)(r:Ch)(x:List Int):ak (c::r) x=if c.1=x then c.2 else ak r x:=by
 unfold ak;rw[List.find?_cons]
 by_cases e:c.1=x
 ·rw[decide_eq_true e,if_pos e];rfl
 ·rw[decide_eq_false e,if_neg e]
def kq:∀{cs:Ch}{x:List Int},x∉ksC cs->ak cs x=0
 |[],_,_=>rfl
 |c::r,x,h=>by
  rw[zN,if_neg (fun z=>h (by unfold ksC;rw[Av,z];exact As))];exact kq fun z=>h (Aq _ z)
def u0(q:List Int)(v:Int)(x:List Int):∀cs:Ch,ak (cs.map fun c=>if c.1=q then(c.1,v) else c) x=if x=q/\q∈ksC cs then v else ak cs x
 |[]=>by simp[ak,ksC]
 |c::r=>by
  rw[Av,zN,zN,u0 q v x r];have hm:(q∈ksC (c::r))↔(c.1=q\/q∈ksC r):=by
   show q∈c.1::ksC r↔_;rw[List.mem_cons];constructor
   ·rintro(h|h)
    ·exact .inl h.symm
    ·exact .inr h
   ·rintro(h|h)
    ·exact .inl h.symm
    ·exact .inr h
  by_cases e:c.1=q
  ·rw[if_pos e]
   by_cases f:x=q
   ·subst f
    rw[if_pos e,if_pos ⟨rfl,hm.mpr (.inl e)⟩]
   ·rw[if_neg (fun z=>f (z.symm.trans e)),if_neg (fun z=>f z.1),if_neg (fun z=>f z.1),if_neg (fun z=>f (z.symm.trans e))]
  ·rw[if_neg e]
   by_cases f:c.1=x
   ·rw[if_pos f,if_pos f,if_neg (fun z=>e (f.trans z.1))]
   ·rw[if_neg f,if_neg f]
    by_cases g:x=q/\q∈ksC r
    ·rw[if_pos g,if_pos ⟨g.1,hm.mpr (.inr g.2)⟩]
    ·rw[if_neg g,if_neg (fun z=>g ⟨z.1,(hm.mp z.2).resolve_left e⟩)]
def EC(q:List Int)(v:Int)(x:List Int):∀cs:Ch,ak (cs++[(q,v)]) x=if x∈ksC cs then ak cs x else if q=x then v else 0
 |[]=>by simp[ak,ksC];split<;>rfl
 |c::r=>by
  rw[List.cons_append,zN,zN,EC q v x r]
  by_cases e:c.1=x
  ·rw[if_pos e,if_pos e,if_pos (by show x∈c.1::ksC r;rw[e];exact As)]
  ·rw[if_neg e,if_neg e]
   by_cases h:x∈ksC r
   ·rw[if_pos h,if_pos (show x∈ksC (c::r) from Aq _ h)]
   ·have a:¬x∈ksC (c::r):=fun z=>by
     rcases List.mem_cons.mp (show x∈c.1::ksC r from z) with z|z
     ·exact e z.symm
     ·exact h z
    rw[if_neg h,if_neg a]
def ED(cs:Ch)(q:List Int)(v:Int)(x:List Int):ak (bF cs q v) x=if x=q then v else ak cs x:=by
 unfold bF
 by_cases h:q∈ksC cs
 ·rw[if_pos h,u0]
  by_cases e:x=q
  ·rw[if_pos ⟨e,h⟩,if_pos e]
  ·rw[if_neg (fun z=>e z.1),if_neg e]
 ·rw[if_neg h,EC]
  by_cases e:x=q
  ·subst e
   rw[if_neg h,if_pos rfl,if_pos rfl]
  ·rw[if_neg e]
   by_cases g:x∈ksC cs
   ·rw[if_pos g]
   ·rw[if_neg g,if_neg (fun z=>e z.symm),kq g]
def cZ(ts:Ch)(x:List Int):Int:=(ts.map fun c=>if c.1=x then c.2 else 0).sum
def LZ(ts:Ch)(t:List Int×Int)(x:List Int):cZ (ts++[t]) x=cZ ts x+if t.1=x then t.2 else 0:=by
 unfold cZ;rw[Ah,List.sum_append];simp
def su(ts:Ch)(t:List Int×Int)(x:List Int):cZ (t::ts) x=(if t.1=x then t.2 else 0)+cZ ts x:=by unfold cZ;rw[Av,List.sum_cons]
def L0(ts us:Ch)(x:List Int):cZ (ts++us) x=cZ ts x+cZ us x:=by unfold cZ;rw[Ah,List.sum_append]
def L6(x:List Int)(ts:Ch):ak (be ts) x=cZ ts x:=sr (P:=fun ts=>ak (be ts) x=cZ ts x) rfl (fun l t h=>by
 rw[so,LZ];unfold iC;rw[ED]
 by_cases e:x=t.1
 ·subst e
  rw[if_pos rfl,if_pos rfl,h]
 ·rw[if_neg e,if_neg (fun z=>e z.symm),h];omega) ts
def sv(x:List Int):∀{cs:Ch},(ksC cs).Nodup->ak (cs.filter dj) x=ak cs x
 |[],_=>rfl
 |c::r,h=>by
  have h':(c.1::ksC r).Nodup:=h;rw[List.nodup_cons] at h';have a:=sv x h'.2;cases hz:dj c with
  |true=>rw[List.filter_cons_of_pos hz,zN,zN,a]
  |false=>
   have b:c.2=0:=by
    have:(!decide (V.int c.2=V.int 0))=false:=hz;have:=of_decide_eq_true (by simpa using this:decide (V.int c.2=V.int 0)=true);injection this
   rw[AT (by rw[hz];decide),zN,a]
   by_cases e:c.1=x
   ·rw[if_pos e,b]
    exact kq (by rw[<-e];exact h'.1)
   ·rw[if_neg e]
def L7(ts:Ch)(x:List Int):ak (d_ ts) x=cZ ts x:=by unfold d_;rw[sv x (yB ts),L6]
def L9(ts:Ch):(ksC (d_ ts)).Nodup:=(yB ts).sublist ((List.filter_sublist (p:=dj) (l:=be ts)).map _)
def L_(ts:Ch):(d_ ts).length<=ts.length:=AD (List.length_filter_le _ _) (yC ts)
def ku:∀{cs:Ch},(ksC cs).Nodup->∀c∈cs,ak cs c.1=c.2
 |[],_,c,h=>absurd h (by simp)
 |d::r,h,c,hc=>by
  have h':(d.1::ksC r).Nodup:=h;rw[List.nodup_cons] at h';rw[zN];rcases List.mem_cons.mp hc with e|hc'
  ·rw[e,if_pos rfl]
  ·rw[if_neg (fun z=>h'.1 (by rw[z];exact List.mem_map.mpr ⟨c,hc',rfl⟩))]
   exact ku h'.2 c hc'
def L'{ts:Ch}{x:List Int}(h:∀t∈ts,t.1≠x):cZ ts x=0:=by
 induction ts with
 |nil=>rfl
 |cons t r ih=>rw[su,if_neg (h t As),ih fun u hu=>h u (Aq _ hu)];rfl
def lG(ts:Ch):Ch:=ts.foldl (fun acc t=>bF acc t.1 t.2) []
def EE:∀(ts acc:Ch),(a6 ts).foldl (fun acc kv=>putK acc kv.1 kv.2) (a6 acc)=a6 (ts.foldl (fun acc t=>bF acc t.1 t.2) acc)
 |[],_=>rfl
 |t::r,acc=>by
  show(a6 r).foldl _ (putK (a6 acc) (t.1.map Sum.inl) (.int t.2))=_;rw[yz];exact EE r _
def yE(ts:Ch):sk (a6 ts)=a6 (lG ts):=EE ts []
def EF{ps:List Int}(h:ps.Nodup):(rims ps).Nodup:=by
 unfold rims;split
 ·exact A7
 ·have key:∀j k,j<k->k<ps.length->ps.take j++ps.drop (j+1)≠ps.take k++ps.drop (k+1):=by
   intro j k f hk e;have e1:(ps.take j++ps.drop (j+1))[j]?=(ps.take k++ps.drop (k+1))[j]?:=by rw[e]
   rw[List.getElem?_append_right (by rw[Ay];omega),List.getElem?_append_left (by rw[Ay];omega),List.getElem?_take_of_lt f,List.getElem?_drop,Ay,Nat.min_eq_left ω] at e1;rw[show j+1+(j-j)=j+1 from ω] at e1;have:=(List.getElem?_inj ω h).mp e1;omega
  unfold List.Nodup;rw[A2];refine(List.nodup_range (n:=ps.length)).imp_of_mem fun{a b} d hb c e=>?_;rw[List.mem_range] at d hb;rcases Nat.lt_or_gt_of_ne c with z|z
  ·exact key a b z hb e
  ·exact key b a z d e.symm
def lJ(ps:List Int)(n:Int):ksC (bz ps n)=rims ps:=by
 unfold ksC bz;rw[Ap];exact List.zipIdx_map_fst 0 (rims ps)
def Ma(ps:List Int)(n:Int)(x:List Int):cZ (bz ps n) x=n*cZ (bz ps 1) x:=by
 unfold bz;generalize (rims ps).zipIdx=l
 induction l with
 |nil=>simp[cZ]
 |cons q r ih=>
  rw[Av,Av,su,su,ih,Int.mul_add]
  congr 1
  by_cases e:q.1=x
  ·rw[if_pos e,if_pos e]
   unfold sg;split<;>simp
  ·rw[if_neg e,if_neg e];simp
def EG(f:List Int×Int->Ch)(x:List Int):∀cs:Ch,cZ (cs.flatMap f) x=(cs.map fun c=>cZ (f c) x).sum
 |[]=>rfl
 |c::r=>by rw[Bc,L0,Av,List.sum_cons,EG f x r]
def Mb{cs:Ch}{i:Nat}{c:List Int×Int}(f:List Int×Int->Ch)(h:cs[i]?=some c):(cs.take (i+1)).flatMap f=(cs.take i).flatMap f++f c:=by rw[AF h,List.flatMap_append];simp
def yF{cs:Ch}(h:∀c∈cs,c.1.length<=5):(cs.flatMap fun c=>bz c.1 c.2).length<=5*cs.length:=by
 induction cs with
 |nil=>simp
 |cons c r ih=>
  rw[Bc,Ai,An,yD];have:=ih fun d hd=>h d (Aq _ hd);have:=jS c.1;have:=h c As;omega
abbrev sA(cs:Ch):Ch:=d_ (cs.flatMap fun c=>bz c.1 c.2)
def tau(q x:List Int):Int:=cZ (bz q 1) x
def lin(cs:Ch)(x:List Int):Int:=(cs.map fun c=>c.2*tau c.1 x).sum
def yG(c:List Int×Int)(r:Ch)(x:List Int):lin (c::r) x=c.2*tau c.1 x+lin r x:=by unfold lin;rw[Av,List.sum_cons]
def EH(a b:Ch)(x:List Int):lin (a++b) x=lin a x+lin b x:=by unfold lin;rw[Ah,List.sum_append]
def Mc(cs:Ch)(x:List Int):ak (sA cs) x=lin cs x:=by
 rw[L7,EG];unfold lin
 congr 1
 exact AJ fun c _=>Ma c.1 c.2 x
def dl(x l:List Int):Int:=if l=x then 1 else 0
def sF(q x:List Int):tau q x=((rims q).zipIdx.map fun r=>sg r.2 1*dl x r.1).sum:=by
 unfold tau cZ bz;rw[Ap]
 congr 1
 refine AJ fun r _=>?_;show(if r.1=x then sg r.2 1 else 0)=sg r.2 1*dl x r.1;unfold dl
 by_cases e:r.1=x
 ·rw[if_pos e,if_pos e,Int.mul_one]
 ·rw[if_neg e,if_neg e,Int.mul_zero]
def Md(x:List Int):∀ps:List Int,ps.length<=5->lin (bz ps 1) x=0
 |[],_=>by simp[lin,bz,rims,AB,List.range.loop]
 |[a],_=>by simp[lin,bz,rims]
 |[a,b],_=>by simp[lin,bz,rims,sF,AB,List.range.loop]
 |[a,b,c],_=>by
  simp[lin,bz,rims,sF,AB,List.range.loop,sg];omega
 |[a,b,c,d],_=>by
  simp[lin,bz,rims,sF,AB,List.range.loop,sg];omega
 |[a,b,c,d,e],_=>by
  simp[lin,bz,rims,sF,AB,List.range.loop,sg];omega
 |_::_::_::_::_::_::_,h=>by simp at h
def Me{cs:Ch}(h:(ksC cs).Nodup)(x:List Int):cZ cs x=ak cs x:=by
 induction cs with
 |nil=>rfl
 |cons c r ih=>
  have h':(c.1::ksC r).Nodup:=h;rw[List.nodup_cons] at h';rw[su,zN,ih h'.2]
  by_cases e:c.1=x
  ·rw[if_pos e,if_pos e,kq (by rw[<-e];exact h'.1)];omega
  ·rw[if_neg e,if_neg e];omega
def EI{g:Int->Int}(a:g 0=0)(x:List Int):∀cs:Ch,ak (cs.map fun c=>(c.1,g c.2)) x=g (ak cs x)
 |[]=>a.symm
 |c::r=>by
  rw[Av,zN,zN,EI a x r];split<;>rfl
def yH(g:List Int×Int->Int)(cs:Ch):ksC (cs.map fun c=>(c.1,g c))=ksC cs:=by unfold ksC;rw[Ap];rfl
structure ChP(p:Int)(cs:Ch):Prop where
 nd:(ksC cs).Nodup
 lo:∀c∈cs,1<=c.2/\c.2<p
def ChP.range{p:Int}(hp:0<p){cs:Ch}(h:ChP p cs)(x:List Int):0<=ak cs x/\ak cs x<p:=by
 by_cases e:x∈ksC cs
 ·obtain⟨c,hc,rfl⟩:=List.mem_map.mp e
  rw[ku h.nd c hc];have:=h.lo c hc;omega
 ·rw[kq e];omega
def ChP.at{p:Int}{cs:Ch}(h:ChP p cs){x:List Int}(hx:x∈ksC cs):1<=ak cs x/\ak cs x<p:=by
 obtain⟨c,hc,rfl⟩:=List.mem_map.mp hx;rw[ku h.nd c hc];exact h.lo c hc
abbrev kz(af:Ξ)(cs:Ch):Bar.Ch:=Bar.cat af (ak cs)
def EJ{a:Ξ}{cs:Ch}{u:Nat}{x:List Int}(h:a[u]?=some x):kz a cs u=ak cs x:=Bar.hU h
def Mf{a:Ξ}{cs:Ch}{u:Nat}(h:a.length<=u):kz a cs u=0:=Bar.oD h
def sG(a p:Int):p ∣ a-a%p:=⟨a / p,by have:=Int.emod_add_mul_ediv a p;omega⟩
def isP(p:Int):Prop:=p=2\/p=3\/p=5\/p=7
def isP.pr{p:Int}(h:isP p):Bar.Pr p/\p<=7:=by
 rcases h with rfl|rfl|rfl|rfl
 ·exact⟨Bar.LI,ξ⟩
 ·exact⟨Bar.LJ,ξ⟩
 ·exact⟨Bar.LK,ξ⟩
 ·exact⟨Bar.LL,ξ⟩
def isP.nat{p:Int}(h:isP p):∃n:Nat,p=(n:Int):=by
 rcases h with rfl|rfl|rfl|rfl
 ·exact⟨2,rfl⟩
 ·exact⟨3,rfl⟩
 ·exact⟨5,rfl⟩
 ·exact⟨7,rfl⟩
abbrev sI:Stmt:=top 45
def yI:A5 "dict"=some (.type "dict"):=δ
def yJ(ts:Ch):(ksC ts).Nodup->lG ts=ts:=sr (P:=fun ts=>(ksC ts).Nodup->lG ts=ts) (fun _=>rfl) (fun l t a h=>by
 have h':(ksC l++[t.1]).Nodup:=by
  have:ksC (l++[t])=ksC l++[t.1]:=by unfold ksC;rw[Ah];rfl
  rw[<-this];exact h
 rw[AU] at h';have e1:lG (l++[t])=bF (lG l) t.1 t.2:=by unfold lG;rw[List.foldl_append];rfl
 rw[e1,a h'.1,LY _ (fun z=>h'.2.2 t.1 z t.1 (by simp) rfl)]) ts
def Mg(k:Nat)(n:Int):n*(1-(k:Int)%2*2)=sg k n:=by
 unfold sg
 by_cases h:(k:Int)%2=0
 ·rw[if_pos h,h];simp
 ·have:(k:Int)%2=1:=ω
  rw[if_neg h,this];simp
def Mh{ps:List Int}(h:ps.length=1)(n:Int):bz ps n=[]:=by unfold bz rims;rw[if_pos h];rfl
def Mi{ps:List Int}(h:ps.length≠1)(n:Int){k:Nat}(hk:k<ps.length):(bz ps n)[k]?=some (ps.take k++ps.drop (k+1),sg k n):=by
 unfold bz rims;rw[if_neg h,Ak,List.getElem?_zipIdx,Ak,List.getElem?_range hk];simp
abbrev yK:TT:=gX (cr uO (iP (am 1) (am 0)) (tC (.int 0)))
abbrev yL:TE:=c5 (cD (am 0) (cD (iP (am 1) (am 0)) bB))
section
variable{P:Program}{w:World}{K:Af}{mg:Str->Option Value}{base:Heap}
def EK{H2:Hp}{L D d:Addr}{as:List Addr}{f:Ch}{Q:VK}(hl:H2 L=some (.lst (as.map V.ref)))(y:Tps H2 as (ksC f))(hd:H2 d=some (.dT (a6 f)))(hn:(ksC f).Nodup)(hz:f.length<=1000)(A:H2 D=none)(k:∀(b:Hp)(ts:List Addr),Same H2 b->b D=some (.lst (ts.map V.ref))->Prs b ts (f.filter dj)->Q (.ref D) b):cg (dn K L) (cn 0) yK yL [none,some (.ref d)] H2 D Q:=by
 have w:=y.length;rw[kd] at w;refine zH (xs:=as.map V.ref) (fun j σ ys b=>∃(v:Option V)(ts:List Addr),σ=[v,some (.ref d)]/\Same H2 b/\b D=some (.lst ys)/\ys=ts.map V.ref/\Prs b ts ((f.take j).filter dj)) ?_ ?_ ?_ ?_
 ·exact⟨none,[],rfl,Same.new A,za,rfl,.nil⟩
 ·rintro j σ ys b ⟨v,ts,rfl,sm,e,rfl,hp⟩
  exact SqL.of (sm _ _ hl)
 ·rintro j σ ys b x hx s hy ⟨v,ts,rfl,sm,e,rfl,hp⟩
  obtain⟨a,E,rfl⟩:=zD hx;obtain⟨ps,p,u⟩:=y.get E;unfold ksC at p;rw[Ak] at p;obtain⟨c,q,rfl⟩:∃c,f[j]?=some c/\c.1=ps:=by
   cases h:f[j]? with
   |none=>rw[h] at p;cases p
   |some c=>rw[h] at p;exact⟨c,rfl,Am p⟩
  have hsz:(as.map V.ref).length<=sizeLine:=by rw[Aa];exact zf ω
  have g:∀r,Same b r->DGet r d (.ref a) (some (.int c.2)):=fun r i=>.inr ⟨a6 f,c.1.map Sum.inl,a,.inl (i _ _ (sm _ _ hd)),rfl,dO (i.tp (sm.tp u)),(kh hn c (Al q)).symm⟩;refine⟨_,rfl,_,rfl,d,_,rfl,g b (Same.refl _),rfl,_,rfl,?_⟩;cases hz0:dj c with
  |true=>
   have l:(!decide (V.int c.2=V.int 0))=true:=hz0;rw[l];refine bb ⟨_,rfl,_,rfl,_,rfl,d,_,rfl,g b (Same.refl _),zf (by simp),fun t C=>?_⟩;have i:=Same.new (o:=.tup [.ref a,.int c.2]) C;refine bx hsz s hy (i _ _ e) ⟨_,ts++[t],rfl,(sm.trans i).then A,za,by rw[Ah];rfl,?_⟩;rw[AF q,AK,List.filter_cons_of_pos hz0];exact Prs.upd (Prs.snoc (hp.same i) ⟨a,za,i.tp (sm.tp u)⟩) (i _ _ e) (by intro xs z;cases z)
  |false=>
   have l:(!decide (V.int c.2=V.int 0))=false:=hz0;rw[l];refine aW (b7 s hy ⟨_,ts,rfl,sm,e,rfl,?_⟩);rw[AF q,AK,AT (by rw[hz0];decide),List.filter_nil,AN];exact hp
 ·rintro σ ys b ⟨v,ts,rfl,sm,e,rfl,hp⟩
  rw[Aa,w,take_all] at hp;exact k b ts sm e hp
def yM{H:Hp}{ts:List Addr}{cs:Ch}(h:Prs H ts cs):Paired (fun t(kv:List Key×V)=>∃b,H t=some (.tup [.ref b,kv.2])/\H b=some (.tup (kv.1.map kV))) ts (a6 cs):=by
 unfold a6
 induction h with
 |nil=>exact .nil
 |cons r t ih=>
  obtain⟨b,e1,e2⟩:=r;exact .cons ⟨b,e1,dO e2⟩ ih
def yN:Sp:=fun vs H Q _=>∃d cs,vs=[.ref d]/\Rd H d (.dT (a6 cs))/\(ksC cs).Nodup/\(∀c∈cs,c.1.length<=5/\c.1≠[])/\cs.length<=100/\
 ∀D H',Same H H'->H D=none->H' D=some (.dT (a6 (d_ (cs.flatMap fun c=>bz c.1 c.2))))->Q (.ref D) H'
def oE:zq ["chain","found","piece","k","rim"] ["chain"] (zh sI):=⟨rfl,rfl,rfl,δ,rfl,δ,δ⟩
def Mj{f:Addr}{fd:FuncData}(F:Fun K "_law_seam" "_law_seam" sI f fd)(B:Bt mg)(kM:mg "dict"=none):FnOk P w K mg base aJ 1 f fd ["chain"] yN:=by
 refine F.ok oE (fun vs H Q E h=>?_) (fun cdv A outer s H vs Q E hr h=>?_)
 ·obtain⟨d,cs,rfl,_⟩:=h;rfl
 ·obtain⟨d,cs,rfl,hd,hnd,h5,hz,k⟩:=h
  have hu:=gY hr;have aD:=hr.units;refine⟨_,zd (zp (i:=1) oE.nd rfl (Or.inr rfl) iQ)
   (zd (zK AG rfl (zr (zm (zG rfl) rfl B.list du (zb (pv 0) zc))) (zk (i:=2) oE.nd rfl (Or.inl rfl))
    (zg (zK AG rfl (l' rfl B.range (zb (zl zj rfl B.len cH (zb (pv 2) zc)) zc)) (zk (i:=3) oE.nd rfl (Or.inl rfl))
     (zd (zp (i:=4) oE.nd rfl (Or.inl rfl) (zx pX (kJ qm (pv 2) ia (ic (pv 3))) (kJ qm (pv 2) (ic (zx eR (pv 3) zi)) ia)))
     (zg (cY (zt (CD aD) (pv 4) (ei zc) (ao _))
      (zg (ik hu (pv 1) (pv 4) (zx eR (vN hu (pv 1) (pv 4) zi ⟨rfl,rfl,rfl,rfl⟩) (zx gS (zP hu (pv 0) (pv 2) (fun _ _=>rfl)) (zx jn zi (zx gS (zx fH (pv 3) zi) zi)))) rfl)) zE))))))
   (zg (zu (zm (oz rfl aD) rfl kM yI (zb
    (zw ["chain","found","piece","k","rim"] ["rim","found"] [none,some 1] (zr (zm (zG rfl) rfl B.list du (zb (pv 1) zc))) (fun cl C s₀ H₀ ex=>zk (i:=0) (cF ["rim","found"]) rfl (Or.inl rfl))
     (fun cl C s₀ H₀ ex=>g0 (zt kI (zP hu (pv 1) (pv 0) (fun _ _=>rfl)) zi (ao _))) (fun cl C s₀ H₀ ex=>ei (zb (pv 0) (zb (zP hu (pv 1) (pv 0) (fun _ _=>rfl)) zc))) (hfr:=ci (zh sI) δ) (tc:=yK) (te:=yL)) zc))))),?_⟩
  intro S hS;have sS:=Same.new (o:=.dT []) hS;refine⟨_,rfl,d,a6 cs,rfl,hd.same sS,fun bs pb L hL=>?_⟩;have tb:=iB pb;have sL:=Same.new (o:=.lst (bs.map V.ref)) hL;have rR:S≠L:=ze (za (H:=H) (a:=S) (o:=.dT [])) hL;have iE:=tb.length;rw[kd] at iE;refine⟨L,rfl,⟨_,SqL.of za⟩,zC (K:=K) (a:=L) (xs:=bs.map V.ref) (fun i σ H2=>∃(v2 g q:Option V),σ=[some (.ref d),some (.ref S),v2,g,q]/\Same H H2/\H2 L=some (.lst (bs.map V.ref))/\Tps H2 bs (ksC cs)/\H2 S=some (.dT (a6 (be ((cs.take i).flatMap fun c=>bz c.1 c.2)))))
   ⟨none,none,none,rfl,sS.trans sL,za,sL.tps tb,sL _ _ za⟩ (fun i σ H2 _ ⟨_,_,_,_,_,h,_⟩=>SqL.of h) ?_ ?_⟩
  ·rintro i x σ H2 hx ⟨v2,g,q,rfl,sm,bK,lg,v⟩
   obtain⟨b,eb,rfl⟩:=zD hx;obtain⟨ps,G,aN⟩:=lg.get eb;unfold ksC at G;rw[Ak] at G;obtain⟨c,ec,rfl⟩:∃c,cs[i]?=some c/\c.1=ps:=by
    cases h:cs[i]? with
    |none=>rw[h] at G;cases G
    |some c=>rw[h] at G;exact⟨c,rfl,Am G⟩
   have bN:=Al ec;obtain⟨eQ,wx⟩:=h5 c bN;have hi:i<cs.length:=(List.getElem?_eq_some_iff.mp ec).1;refine⟨_,rfl,b,_,rfl,.inr (SqT.of aN),_,rfl,by rw[Aa];omega,by rw[Aa];omega,?_⟩;rw[Aa];refine pk (lo:=0) (n:=((c.1.length:Int)).toNat) (fun j σ u=>∃(g q:Option V),σ=[some (.ref d),some (.ref S),some (.ref b),g,q]/\Same H u/\u L=some (.lst (bs.map V.ref))/\Tps u bs (ksC cs)/\Tp u b c.1/\u S=some (.dT (a6 (be ((cs.take i).flatMap (fun c=>bz c.1 c.2)++(bz c.1 c.2).take j)))))
    ⟨_,_,rfl,sm,bK,lg,aN,by rw[List.take_zero,AN];exact v⟩ ?_ ?_
   ·rintro j σ u hj ⟨g,q,rfl,J,U,W,r,I⟩
    have hj':j<c.1.length:=ω
    refine⟨_,rfl,_,rfl,_,rfl,b,_,rfl,r,fun p1 H4 T di=>⟨_,rfl,_,rfl,_,_,rfl,rfl,_,rfl,b,_,rfl,T _ _ r,fun p2 H5 cW cB=>?_⟩⟩;rw[show(0:Int)+((j:Nat):Int)=((j:Nat):Int) from ω,nZ _ _ (by rw[Aa];omega),<-List.map_take] at di;rw[show(0:Int)+((j:Nat):Int)+1=((j+1:Nat):Int) from ω,n4 _ _ (by rw[Aa];omega),<-List.map_drop] at cB;refine⟨p1,p2,_,_,rfl,rfl,cW _ _ di,cB,zf (by simp;omega),fun X H6 nL dU=>?_⟩;rw[<-Ah] at dU;have s6:=(T.trans cW).trans nL;refine⟨_,rfl,zf (by simp),fun t bM=>?_⟩;have sT:=Same.new (o:=.tup []) bM;have e:=s6.trans sT;have kc:Tp _ X (c.1.take j++c.1.drop (j+1)):=sT _ _ dU;refine .inl ⟨X,t,_,[],rfl,rfl,kc,za,_,rfl,?_⟩;rw[if_pos rfl];have N:=e _ _ I
    by_cases h1:c.1.length=1
    ·have qK:j=0:=ω
     subst qK;have e0:c.1.take 0++c.1.drop (0+1)=[]:=by
      rw[List.take_zero,List.nil_append];exact List.drop_eq_nil_of_le ω
     rw[e0,decide_eq_true rfl];refine aW ⟨_,_,rfl,J.trans e,e _ _ U,e.tps W,e.tp r,?_⟩;rw[Mh h1,List.take_nil] at I ⊢;exact e _ _ I
    ·have hne:¬(c.1.take j++c.1.drop (j+1)=[]):=fun z=>by
      have e9:=congrArg List.length z;rw[Ai,Ay,List.length_drop,List.length_nil] at e9;have:c.1.length≠0:=fun y=>wx (AH y);omega
     rw[decide_eq_false hne];have vo:=Mi h1 c.2 hj';have cP:((cs.take i).flatMap (fun c=>bz c.1 c.2)++(bz c.1 c.2).take j).length<=600:=by
      have:=yF (cs:=cs.take i) fun c hc=>(h5 c (List.mem_of_mem_take hc)).1;rw[Ay] at this;have h2:=yD c.1 c.2;have h3:=jS c.1;rw[Ai,Ay];omega
     have O:(a6 (be ((cs.take i).flatMap (fun c=>bz c.1 c.2)++(bz c.1 c.2).take j))).length<sizeLine:=by
      rw[Ex];have:=yC ((cs.take i).flatMap (fun c=>bz c.1 c.2)++(bz c.1 c.2).take j);exact zM ω
     have sw:=(hd.same (J.trans e));refine bb ⟨_,rfl,S,rfl,.inr ⟨_,.inl N⟩,_,rfl,_,.inr ⟨_,(c.1.take j++c.1.drop (j+1)).map Sum.inl,X,.inl N,rfl,dO kc,rfl⟩,?_⟩;rw[EB];refine⟨_,rfl,_,rfl,d,.int c.2,rfl,.inr ⟨a6 cs,c.1.map Sum.inl,b,sw,rfl,dO (e.tp r),(kh hnd c bN).symm⟩,_,rfl,_,_,rfl,rfl,(by show(0:Int)<2;decide),_,_,rfl,rfl,.inr ⟨ξ,ξ⟩,_,_,rfl,rfl,_,_,rfl,rfl,.inr ⟨?_,?_⟩,_,_,rfl,rfl,_,rfl,_,rfl,S,_,rfl,DPut.t (k:=(c.1.take j++c.1.drop (j+1)).map Sum.inl) N (dO kc) O,⟨_,_,rfl,(J.trans e).then hS,?_,Tps.upd (e.tps W) N (by intro xs z;cases z),?_,?_⟩⟩
     ·show -(18446744073709551616:Int)<1-(0+(j:Int))%2*2
      omega
     ·show 1-(0+(j:Int))%2*2<(18446744073709551616:Int)
      omega
     ·rw[ab (Ne.symm rR)];exact e _ _ U
     ·show upd _ S _ b=_
      rw[ab (aF (show _=some _ from e.tp r) N (by intro z;cases z))];exact e.tp r
     ·rw[za,show(0:Int)+(j:Int)=(j:Int) from ω,Mg,yz,AF vo,<-List.append_assoc,so]
      rfl
   ·rintro σ u ⟨g,q,rfl,J,U,W,r,I⟩
    refine⟨_,_,_,rfl,J,U,W,?_⟩;rw[Mb _ ec];rw[show(bz c.1 c.2).take ((c.1.length:Int)).toNat=bz c.1 c.2 from Ax (by rw[yD];have:=jS c.1;omega)] at I;exact I
  ·rintro σ H2 ⟨v2,g,q,rfl,sm,bK,lg,v⟩
   rw[Aa,iE,take_all] at v;unfold d_ at k;have hn:=yB (cs.flatMap fun c=>bz c.1 c.2);have uk:=yC (cs.flatMap fun c=>bz c.1 c.2);have cP:=yF (cs:=cs) fun c hc=>(h5 c hc).1;generalize be (cs.flatMap fun c=>bz c.1 c.2)=ss at v hn uk k;refine⟨_,rfl,S,a6 ss,rfl,.inl v,fun es pe M Y=>⟨M,rfl,⟨_,SqL.of za⟩,fun D hD=>zF (EK za ((Same.new Y).tps (iB pe)) (Same.new Y _ _ v) hn ω hD fun H4 ts T aR oJ=>?_)⟩⟩;refine⟨D,ts,a6 (ss.filter dj),rfl,SqL.of aR,yM oJ,fun R hR=>?_⟩;rw[yE,yJ _ (hn.sublist ((List.filter_sublist (p:=dj) (l:=ss)).map _))];have s4:=(sm.trans (Same.new Y)).trans T;exact k R _ (s4.trans (Same.new hR)) (s4.free hR) za
end
end K50
end
section
namespace Bar
section
variable{κ:Type}
def aV:List Int->List (κ->Int)->κ->Int
 |a::c,v::L=>fun u=>a*v u+aV c L u
 |_,_=>fun _=>0
def de(p:Nat):Nat->Ξ
 |0=>[[]]
 |n+1=>(de p n).flatMap fun c=>(AB p).map fun a:Nat=>(a:Int)::c
def yO(p:Nat):∀n,(de p n).length=p ^ n
 |0=>rfl
 |n+1=>by
  have:∀l:Ξ,(l.flatMap fun c=>(AB p).map fun a:Nat=>(a:Int)::c).length=l.length*p:=by
   intro l
   induction l with
   |nil=>simp
   |cons c l ih=>rw[Bc,Ai,Aa,List.length_range,ih,An,Nat.add_mul];omega
  show(((de p n).flatMap fun c=>(AB p).map fun a:Nat=>(a:Int)::c)).length=_;rw[this,yO p n,Nat.pow_succ]
def oG{p:Nat}:∀{n:Nat}{c:List Int},c∈de p n↔c.length=n/\∀x∈c,0<=x/\x<(p:Int)
 |0,c=>by
  show c∈[[]]↔_;rw[A3];constructor
  ·rintro rfl;exact⟨rfl,fun x hx=>nomatch hx⟩
  ·intro h;exact AH h.1
 |n+1,c=>by
  show c∈(de p n).flatMap (fun c=>(AB p).map fun a:Nat=>(a:Int)::c)↔_;rw[List.mem_flatMap];constructor
  ·rintro⟨d,hd,h⟩
   obtain⟨a,b,rfl⟩:=List.mem_map.mp h;obtain⟨h1,h2⟩:=oG.mp hd;have:=List.mem_range.mp b;refine⟨by rw[An,h1],fun x hx=>?_⟩;rcases List.mem_cons.mp hx with rfl|hx
   ·omega
   ·exact h2 x hx
  ·rintro⟨h1,h2⟩
   cases c with
   |nil=>simp at h1
   |cons a d=>
    have b:=h2 a (.head _);refine⟨d,oG.mpr ⟨by simpa using h1,fun x hx=>h2 x (.tail _ hx)⟩,List.mem_map.mpr ⟨a.toNat,List.mem_range.mpr ω,?_⟩⟩;rw[Int.toNat_of_nonneg b.1]
def EM(p:Nat):∀n,(de p n).Nodup
 |0=>by simp[de]
 |n+1=>by
  show((de p n).flatMap fun c=>(AB p).map fun a:Nat=>(a:Int)::c).Pairwise (·≠·);rw[List.pairwise_flatMap];refine⟨fun c _=>?_,(EM p n).imp fun{a b} h x hx y hy e=>?_⟩
  ·rw[A2]
   exact List.nodup_range.imp fun h e=>h (by injection e with e;omega)
  ·obtain⟨i,_,rfl⟩:=List.mem_map.mp hx
   obtain⟨j,_,rfl⟩:=List.mem_map.mp hy;injection e with _ e
   exact h e
def EN:∀(c d:List Int)(L:List (κ->Int)),c.length=L.length->d.length=L.length->∀u,aV (List.zipWith (fun a b=>a-b) c d) L u=aV c L u-aV d L u
 |c,d,[],h1,h2,u=>by rw[AH h1,AH h2];rfl
 |[],_,_::_,h1,_,_=>by simp at h1
 |_::_,[],_::_,_,h2,_=>by simp at h2
 |a::c,b::d,v::L,h1,h2,u=>by
  show(a-b)*v u+aV _ L u=a*v u+aV c L u-(b*v u+aV d L u);rw[EN c d L (by simpa using h1) (by simpa using h2),Int.sub_mul];omega
def EO(p:Int):∀(c:List Int)(L:List (κ->Int))(u:κ),p ∣ aV c L u-aV (c.map (·%p)) L u
 |[],[],_=>AE _
 |[],_::_,_=>AE _
 |_::_,[],_=>AE _
 |a::c,v::L,u=>by
  show p ∣ a*v u+aV c L u-(a%p*v u+aV (c.map (·%p)) L u);have h1:=EO p c L u;have h2:p ∣ (a-a%p)*v u:=Int.dvd_trans ⟨a / p,by have:=Int.emod_add_mul_ediv a p;omega⟩ (Int.dvd_mul_right _ _);have:=Int.dvd_add h2 h1
  rwa [show(a-a%p)*v u+(aV c L u-aV (c.map (·%p)) L u)=a*v u+aV c L u-(a%p*v u+aV (c.map (·%p)) L u) by rw[Int.sub_mul];omega] at this
def EQ(k:Int):∀(c d:List Int)(L:List (κ->Int)),c.length=L.length->d.length=L.length->∀u,aV (List.zipWith (fun a b=>k*a+b) c d) L u=k*aV c L u+aV d L u
 |c,d,[],h1,h2,u=>by rw[AH h1,AH h2];show(0:Int)=k*0+0;omega
 |[],_,_::_,h1,_,_=>by simp at h1
 |_::_,[],_::_,_,h2,_=>by simp at h2
 |a::c,b::d,v::L,h1,h2,u=>by
  show(k*a+b)*v u+aV _ L u=k*(a*v u+aV c L u)+(b*v u+aV d L u);rw[EQ k c d L (by simpa using h1) (by simpa using h2),Int.add_mul,Int.mul_add,Int.mul_assoc];omega
def bX(p:Int)(B:List (κ->Int))(f:κ->Int):Prop:=∃d:List Int,d.length=B.length/\∀u,p ∣ f u-aV d B u
def yP:∀(L:List (κ->Int))(u:κ),aV (L.map fun _=>0) L u=0
 |[],_=>rfl
 |v::L,u=>by show 0*v u+aV (L.map fun _=>0) L u=0;rw[yP L u];omega
def iD{p:Int}{B:List (κ->Int)}{f:κ->Int}(h:∀u,p ∣ f u):bX p B f:=⟨B.map fun _=>0,Aa _,fun u=>by rw[yP];simpa using h u⟩
def hY{p k:Int}{B:List (κ->Int)}{f g:κ->Int}(hf:bX p B f)(h:bX p B g):bX p B fun u=>k*f u+g u:=by
 obtain⟨c,h1,h2⟩:=hf;obtain⟨d,h3,e⟩:=h;refine⟨List.zipWith (fun a b=>k*a+b) c d,by rw[List.length_zipWith];omega,fun u=>?_⟩;rw[EQ k c d B h1 h3];have:=Int.dvd_add (Int.dvd_trans (h2 u) (Int.dvd_mul_left k _)) (e u)
 rwa [show k*(f u-aV c B u)+(g u-aV d B u)=k*f u+g u-(k*aV c B u+aV d B u) by rw[Int.mul_sub];omega] at this
def fQ{p:Int}{B:List (κ->Int)}{f g:κ->Int}(h:∀u,p ∣ f u-g u)(b:bX p B g):bX p B f:=by
 obtain⟨d,h3,a⟩:=b;refine⟨d,h3,fun u=>?_⟩;have:=Int.dvd_add (h u) (a u)
 rwa [show f u-g u+(g u-aV d B u)=f u-aV d B u from ω] at this
def yQ{p:Int}{B:List (κ->Int)}:∀(c:List Int)(A:List (κ->Int)),(∀v∈A,bX p B v)->bX p B (aV c A)
 |[],[],_=>iD fun u=>AE _
 |[],_::_,_=>iD fun u=>AE _
 |_::_,[],_=>iD fun u=>AE _
 |a::c,v::A,h=>hY (h v (.head _)) (yQ c A fun w hw=>h w (.tail _ hw))
def jf{p:Int}{A B:List (κ->Int)}{f:κ->Int}(h:bX p A f)(a:∀v∈A,bX p B v):bX p B f:=by
 obtain⟨d,h1,h2⟩:=h;exact fQ h2 (yQ d A a)
def zR{p:Int}:∀{B:List (κ->Int)}{v:κ->Int},v∈B->bX p B v
 |w::B,v,h=>by
  rcases List.mem_cons.mp h with rfl|h
  ·refine⟨1::B.map fun _=>0,by rw[An,Aa,An],fun u=>?_⟩
   show p ∣ v u-(1*v u+aV (B.map fun _=>0) B u);rw[yP,Int.one_mul,Int.add_zero,Int.sub_self];exact AE _
  ·obtain⟨d,h1,h2⟩:=zR h
   refine⟨0::d,by rw[An,An,h1],fun u=>?_⟩;show p ∣ v u-(0*w u+aV d B u);rw[Int.zero_mul,Int.zero_add];exact h2 u
def yR(p:Int)(A:List (κ->Int)):Prop:=∀c:List Int,c.length=A.length->(∀u,p ∣ aV c A u)->∀x∈c,p ∣ x
def ER{p:Int}:∀{c d:List Int},c.length=d.length->(∀x∈c,0<=x/\x<p)->(∀x∈d,0<=x/\x<p)->(∀x∈List.zipWith (fun a b=>a-b) c d,p ∣ x)->c=d
 |[],[],_,_,_,_=>rfl
 |a::c,b::d,hl,h1,h2,h=>by
  have e:p ∣ a-b:=h _ (.head _);have f:=h1 a (.head _);have g:=h2 b (.head _);have:a=b:=by
   obtain⟨k,hk⟩:=e;have:k=0:=by
    rcases Int.lt_trichotomy k 0 with z|z|z
    ·have:p*k<=p*(-1):=Int.mul_le_mul_of_nonneg_left ω ω
     omega
    ·exact z
    ·have:p*1<=p*k:=Int.mul_le_mul_of_nonneg_left ω ω
     omega
   subst this;omega
  rw[this,ER (by simpa using hl) (fun x hx=>h1 x (.tail _ hx)) (fun x hx=>h2 x (.tail _ hx)) fun x hx=>h x (.tail _ hx)]
def ES{p:Nat}(hp:2<=p){A B:List (κ->Int)}(ind:yR (p:Int) A)(sp:∀v∈A,bX (p:Int) B v):A.length<=B.length:=by
 have key:∀c:List Int,∃d:List Int,d.length=B.length/\(∀x∈d,0<=x/\x<(p:Int))/\∀u,(p:Int) ∣ aV c A u-aV d B u:=fun c=>by
  obtain⟨d,h1,h2⟩:=yQ c A sp;refine⟨d.map (·%(p:Int)),by rw[Aa];exact h1,fun x hx=>?_,fun u=>?_⟩
  ·obtain⟨y,_,rfl⟩:=List.mem_map.mp hx
   exact⟨Int.emod_nonneg _ ω,Int.emod_lt_of_pos _ ω⟩
  ·have:=Int.dvd_add (h2 u) (EO (p:Int) d B u)
   rwa [show aV c A u-aV d B u+(aV d B u-aV (d.map (·%(p:Int))) B u)=aV c A u-aV (d.map (·%(p:Int))) B u from ω] at this
 have q:((de p A.length).map fun c=>(key c).choose).Nodup:=by
  unfold List.Nodup;rw[A2];refine(EM p A.length).imp_of_mem fun{a b} h hb f e=>f ?_;obtain⟨i,j⟩:=oG.mp h;obtain⟨l,o⟩:=oG.mp hb;refine ER (p:=(p:Int)) ω j o (ind _ (by rw[List.length_zipWith];omega) fun u=>?_);rw[EN a b A i l];have g:=(key a).choose_spec.2.2 u;have r:=(key b).choose_spec.2.2 u;rw[e] at g;have:=Int.dvd_sub g r
  rwa [show aV a A u-aV (key b).choose B u-(aV b A u-aV (key b).choose B u)=aV a A u-aV b A u from ω] at this
 have:=q.length_le_of_subset (l₂:=de p B.length) fun d hd=>by
  obtain⟨c,_,rfl⟩:=List.mem_map.mp hd;exact oG.mpr ⟨(key c).choose_spec.1,(key c).choose_spec.2.1⟩
 rw[Aa,yO,yO] at this;exact(Nat.pow_le_pow_iff_right ω).mp this
end
def zlD{p:Int}:∀(c:List Int)(L:List (Nat×Ch)),Sp p L (aV c (L.map (·.2)))
 |[],[]=>fun u=>AE _
 |_::_,[]=>fun u=>AE _
 |[],_::_=>oB fun u=>AE _
 |a::c,r::L=>⟨a,yw (fun u=>by
   show p ∣ a*r.2 u+aV c (L.map (·.2)) u-a*r.2 u-aV c (L.map (·.2)) u;rw[show a*r.2 u+aV c (L.map (·.2)) u-a*r.2 u-aV c (L.map (·.2)) u=0 from ω];exact AE _) (zlD c L)⟩
def ET{p:Int}(P:Pr p):∀{L:List (Nat×Ch)},(L.map (·.1)).Nodup->(∀r∈L,Yg p r.2 r.1)->yR p (L.map (·.2))
 |[],_,_,c,hl,_,x,hx=>by
  rw[List.map_nil,List.length_nil] at hl;rw[AH hl] at hx;cases hx
 |r::L,d,hy,c,hl,hz,x,hx=>by
  rw[Av,List.nodup_cons] at d;cases c with
  |nil=>cases hx
  |cons a c=>
   have b:∀u,p ∣ a*r.2 u+aV c (L.map (·.2)) u:=hz;have e:=hy r (.head _);have f:p ∣ a:=Classical.byContradiction fun h=>by
    have g:Yg p (aV c (L.map (·.2))) r.1:=by
     refine⟨fun z=>?_,fun u hu=>?_⟩
     ·have:=Int.dvd_sub (b r.1) z
      rw[show a*r.2 r.1+aV c (L.map (·.2)) r.1-aV c (L.map (·.2)) r.1=a*r.2 r.1 from ω] at this;exact(P.two_way _ _ this).elim h e.1
     ·have:=Int.dvd_sub (b u) (Int.dvd_trans (e.2 u hu) (Int.dvd_mul_left a _))
      rwa [show a*r.2 u+aV c (L.map (·.2)) u-a*r.2 u=aV c (L.map (·.2)) u from ω] at this
    rcases sp_yg P d.2 (fun q hq=>hy q (.tail _ hq)) (zlD c L) with z|⟨q,hq,z⟩
    ·exact g.not_z z
    ·exact d.1 (List.mem_map.mpr ⟨q,hq,z.uniq g⟩)
   have hr:∀u,p ∣ aV c (L.map (·.2)) u:=fun u=>by
    have:=Int.dvd_sub (b u) (Int.dvd_trans f (Int.dvd_mul_right a (r.2 u)))
    rwa [show a*r.2 u+aV c (L.map (·.2)) u-a*r.2 u=aV c (L.map (·.2)) u from ω] at this
   rcases List.mem_cons.mp hx with rfl|hx
   ·exact f
   ·exact ET P d.2 (fun q hq=>hy q (.tail _ hq)) c (by simpa using hl) hr x hx
structure Lz(p:Int)(af:Ξ)(A:List (Nat×(List Int->Int))):Prop where
 nd:(A.map (·.1)).Nodup
 yg:∀r∈A,Yg p (cat af r.2) r.1
def EU(b:Ξ):∀(c:List Int)(A:List (List Int->Int))(u:Nat),cat b (aV c A) u=aV c (A.map (cat b)) u
 |[],[],u=>by unfold cat;cases b[u]?<;>rfl
 |[],_::_,u=>by unfold cat;cases b[u]?<;>rfl
 |_::_,[],u=>by unfold cat;cases b[u]?<;>rfl
 |a::c,v::A,u=>by
  have d:=EU b c A u;show _=a*cat b v u+aV c (A.map (cat b)) u;rw[<-d];cases e:b[u]? with
  |none=>unfold cat;rw[e];show(0:Int)=a*0+0;omega
  |some x=>rw[hU e,hU e,hU e];rfl
def Lz.ind{p:Int}(P:Pr p){a:Ξ}{A:List (Nat×(List Int->Int))}(h:Lz p a A):yR p (A.map (·.2)):=fun c hl hz=>by
 have e:(A.map fun r=>(r.1,cat a r.2)).map (·.1)=A.map (·.1):=by rw[Ap];rfl
 have e2:(A.map fun r=>(r.1,cat a r.2)).map (·.2)=(A.map (·.2)).map (cat a):=by rw[Ap,Ap];rfl
 have:=ET P (L:=A.map fun r=>(r.1,cat a r.2)) (by rw[e];exact h.nd) (fun r hr=>by
  obtain⟨q,hq,rfl⟩:=List.mem_map.mp hr;exact h.yg q hq)
 rw[e2] at this;refine this c (by rw[Aa];exact hl) fun u=>?_;rw[<-EU];unfold cat;cases a[u]? with
 |none=>exact AE _
 |some x=>exact hz x
def Mk{p:Nat}(P:Pr (p:Int)){d e:Ξ}{A B:List (Nat×(List Int->Int))}(f:Lz p d A)(g:Lz p e B)(h1:∀r∈A,bX (p:Int) (B.map (·.2)) r.2)(h2:∀r∈B,bX (p:Int) (A.map (·.2)) r.2):A.length=B.length:=by
 have hp:2<=p:=by have:=P.two;omega
 have a:=ES hp (f.ind P) (B:=B.map (·.2)) fun v c=>by
  obtain⟨r,hr,rfl⟩:=List.mem_map.mp c;exact h1 r hr
 have b:=ES hp (g.ind P) (B:=A.map (·.2)) fun v c=>by
  obtain⟨r,hr,rfl⟩:=List.mem_map.mp c;exact h2 r hr
 rw[Aa,Aa] at a b;omega
end Bar
end
section
namespace MxT
open PySem PySem.Spec PyProof.Rows
def yS:∀{vs:List Value}{a:List Int}{i:Nat},IntsAre vs a->(h:i<vs.length)->∃n t,a[i]?=some n/\vs[i]=.int n t
 |_,_,0,.cons n t _,_=>⟨n,t,rfl,rfl⟩
 |_,_,i+1,.cons n t r,h=>by
  obtain⟨m,t',e1,e2⟩:=yS (i:=i) r (by simpa using h);exact⟨m,t',by simpa using e1,by simpa using e2⟩
def yT:∀{vs:List Value}{a:List Int},IntsAre vs a->vs.length=a.length
 |_,_,.nil=>rfl
 |_,_,.cons _ _ r=>by rw[An,An,yT r]
def Ml{prog:Program}{w:World}{A:Around}{E:Ω}{s:Shared}{a c:Int}{t u:Tok}{Q:Ω}(h:Q (.bool (decide (c<a))) s):wpAny (model prog w) A (richCompare .Gt (.int a t) (.int c u)) Q E s:=gt_int h
def Mm(l b:Addr)(f j:Array Value)(n n2:Nat)(dd Q:Option Addr)(S T:Array (Option Value))(p q:List Int):Meets (Builtin.«tuple.__gt__» ⟨[.ref l,.ref b],[]⟩)
   (fun A R s=>s.heap.get? l=some {cls:=.type "tuple",dict:=dd,data:=.seq f n,slots:=S}/\s.heap.get? b=some {cls:=.type "tuple",dict:=Q,data:=.seq j n2,slots:=T}/\
    IntsAre f.toList p/\IntsAre j.toList q/\R (.ok (.ret (.bool (HT.lexLt q p)))) s):=
 .of_wp fun prog w A R s h=>by
  obtain⟨hp,g,d,tk,os⟩:=s;obtain⟨hl,hb,i1,i2,h⟩:=h;have f2:=AutoSeq1.sub_tuple_tuple;have n1:=yT i1;have M:=yT i2;have C:(f.toList.zip j.toList).length=min f.size j.size:=by simp
  wp_walk using wpAny_loadPart' hl,wpAny_loadPart' hb,wpAny_forIn_list _ (fun rest b s'=>b.1=none/\s'=⟨hp,g,d,tk,os⟩/\∃i,rest=(f.toList.zip j.toList).drop i/\i<=min f.size j.size/\
   R (.ok (.ret (.bool (HT.lexLt (q.drop i) (p.drop i))))) ⟨hp,g,d,tk,os⟩) _
  case turn=>
   rintro⟨y,x⟩ rest b s' ⟨o,rfl,i,hz,hi,hR⟩;have r:i<(f.toList.zip j.toList).length:=by
    rcases Nat.lt_or_ge i (f.toList.zip j.toList).length with h'|h'
    ·exact h'
    ·rw[List.drop_of_length_le h'] at hz;cases hz
   have hm:i<min f.size j.size:=C▸r;have h1:i<f.size:=AC hm (Nat.min_le_left _ _);have h2:i<j.size:=AC hm (Nat.min_le_right _ _);rw[List.drop_eq_getElem_cons r] at hz;injection hz with hyx b_
   have hy:y=f[i]:=by have:=congrArg Prod.fst hyx;simpa using this
   have hx:x=j[i]:=by have:=congrArg Prod.snd hyx;simpa using this
   obtain⟨a,ta,D,E⟩:=yS i1 (i:=i) (by simpa using h1);obtain⟨c,tc,F,G⟩:=yS i2 (i:=i) (by simpa using h2);have N:y=.int a ta:=by rw[hy];simpa using E
   have u:x=.int c tc:=by rw[hx];simpa using G
   subst N u;obtain⟨H,I⟩:=List.getElem?_eq_some_iff.mp D;obtain⟨J,L⟩:=List.getElem?_eq_some_iff.mp F;rw[List.drop_eq_getElem_cons H,List.drop_eq_getElem_cons J,I,L,HT.zz] at hR;refine Ab (wpAny_eqBool_int ?_)
   by_cases e:a=c
   ·subst e
    rw[if_pos rfl] at hR;simp only[beq_self_eq_true]
    wp_walk
    exact⟨rfl,rfl,i+1,b_,ω,hR⟩
   ·have O:(a==c)=false:=by simpa using e
    rw[if_neg (fun z=>e z.symm)] at hR;rw[O]
    wp_walk using Ml
    exact⟨_,rfl,hR⟩
  case fin=>
   rintro⟨U,W⟩ s' ⟨o,rfl,i,hz,hi,hR⟩;simp only at o;subst o;have P:min f.size j.size<=i:=by
    rcases Nat.lt_or_ge i (f.toList.zip j.toList).length with h'|h'
    ·rw[List.drop_eq_getElem_cons h'] at hz;cases hz
    ·exact C▸h'
   have X:i=min f.size j.size:=ω
   wp_walk
   refine⟨_,rfl,?_⟩;have e1:p.length=f.size:=by rw[<-n1];simp
   have e2:q.length=j.size:=by rw[<-M];simp
   have:HT.lexLt (q.drop i) (p.drop i)=decide (j.size<f.size):=by
    by_cases z:j.size<f.size
    ·rw[decide_eq_true z,List.drop_of_length_le (show q.length<=i from ω)]
     have v:i<p.length:=ω
     rw[List.drop_eq_getElem_cons v];rfl
    ·rw[decide_eq_false z,List.drop_of_length_le (show p.length<=i from ω)]
     cases q.drop i<;>rfl
   rw[this] at hR
   simpa[Builtin.Tuple.tupleCompareSizes] using hR
  case h=>
   exact⟨rfl,rfl,0,rfl,AL _,by simpa using h⟩
def Mn{prog:Program}{w:World}{A:Around}{E:Ω}{s:Shared}{l b:Addr}{d e:Array Value}{a c:List Int}{Q:Ω}(hl:s.heap.IsTuple l d)(hb:s.heap.IsTuple b e)(i1:IntsAre d.toList a)(i2:IntsAre e.toList c)(hu:A.units<cLine)(h:Q (.bool (HT.lexLt c a)) s):wpAny (model prog w) A (richCompare .Gt (.ref l) (.ref b)) Q E s:=by
 obtain⟨⟨cls,dd,data,o⟩,f,hc,n,hd⟩:=id hl;obtain⟨⟨r,p,data2,q⟩,g,i,n2,j⟩:=id hb;simp only at hc hd i j;subst hc hd i j;exact richCompare_meets_room (op:=.Gt) ⟨_,f,rfl⟩ ⟨_,g,rfl⟩ F.slot_tuple_gt F.entry_tuple_gt (F.args_tuple_gt_2 _ _) (Mm l b d e n n2 dd p o q a c)
  ⟨f,g,i1,i2,show Value.bool (HT.lexLt c a)≠Value.notImplemented/\Q (.bool (HT.lexLt c a)) s from⟨(fun x=>nomatch x),h⟩⟩ hu
end MxT
namespace L2
open PySem PySem.Spec PyProof.Rows
def oH:∀{a b:List Int},HT.lexLt a b=true->HT.lexLt b a=false
 |[],[],h=>by cases h
 |[],_::_,_=>rfl
 |_::_,[],h=>by cases h
 |x::a,y::b,h=>by
  rw[HT.zz] at h ⊢
  by_cases e:x=y
  ·rw[if_pos e] at h;rw[if_pos e.symm];exact oH h
  ·rw[if_neg e] at h;rw[if_neg (fun z=>e z.symm)]
   have:=of_decide_eq_true h;exact decide_eq_false ω
def yU:∀{a b c:List Int},HT.lexLt b a=false->HT.lexLt c b=false->HT.lexLt c a=false
 |[],_,[],_,_=>rfl
 |[],_,_::_,_,_=>rfl
 |x::a,[],_,h,_=>by cases h
 |x::a,y::b,[],_,h=>by cases h
 |x::a,y::b,z::c,h1,h2=>by
  rw[HT.zz] at h1 h2 ⊢
  by_cases e1:y=x
  ·subst e1
   rw[if_pos rfl] at h1
   by_cases e2:z=y
   ·rw[if_pos e2] at h2 ⊢;exact yU h1 h2
   ·rw[if_neg e2] at h2 ⊢;exact h2
  ·rw[if_neg e1] at h1
   have h1:=of_decide_eq_false h1
   by_cases e2:z=y
   ·rw[e2,if_neg e1];exact decide_eq_false h1
   ·rw[if_neg e2] at h2
    have h2:=of_decide_eq_false h2;rw[if_neg ω];exact decide_eq_false ω
section
variable{X:Cx}{aa:Ψ}{σ:St}{H:Hp}{s:Shared}
def Mo{l S I:Addr}{as:List Addr}{u:Ξ}{R:Result->Shared->Prop}(hh:X.A.handled=none)(hu:X.A.units+1<cLine)(hl:SqL X.K H l (as.map V.ref))(Y:Tps H as u)(jq:bm X aa H S)(D:bm X aa H I)(gb:S≠I)(kK:l≠I)(hR:∀(j:Nat) a n s',Inv X aa σ H s'->as[j]?=some a->u[j]?=some n->(∀m∈u,HT.lexLt n m=false)->R (.ok (.ret (.ref a))) s'):∀(r j i:Nat)(s':Shared)(a:Addr)(n:List Int)(c:Nat),as.length-(j+1)=r->j+1<=as.length->Inv X aa σ H s'->s'.heap.get? S=some (seqObj "list" #[.ref a,.ref a] c)->
   s'.heap.IsListIter I l (j+1)->as[i]?=some a->u[i]?=some n->(∀(p:Nat) m,p<=j->u[p]?=some m->HT.lexLt n m=false)->
   codeAny (model X.prog X.w) X.A (.builtin "max.loop" ⟨[.ref I,.none,.ref S],[]⟩) R s':=by
 have aw:=Y.length;have h:(toString "max"++toString ".loop":String)="max.loop":=ξ
 have W:=Walks.list (prog:=X.prog) (w:=X.w) (A:=X.A.in1) hh I l kK (as.map Value.ref).toArray;have hsz:(as.map Value.ref).toArray.size=as.length:=by rw[Aj,Aa]
 have y:∀s',Inv X aa σ H s'->s'.heap.IsList l (as.map Value.ref).toArray:=fun s' Ik=>by
  obtain⟨ae,P,Q,_⟩:=Ik.list hl;obtain rfl:=aQ P;exact Q.isList
 intro r
 induction r with
 |zero=>
  intro j i s' a n c hr hj Ik x M E G J;have U:j+1=as.length:=ω
  refine A4 PySem.F.entry_max_loop ?_;rw[AX PySem.F.plain_max_loop _];show wpAny _ X.A.in1 (seqItems? (.ref S) >>= _) _ _ _;refine Ab (A0 x rfl ?_);show wpAny _ X.A.in1 (tryCatch (pyNext (.ref I)) _ >>= _) _ _ _;refine Ab (wpAny_tryCatch (W.done _ _ _ ⟨by rw[hsz,<-U];exact M,y _ Ik⟩ fun h' g hk'=>?_));have I1:Inv X aa σ H {s' with heap:=h',toks:=g}:=Inv.turneds (t':=g) (ch:=[I]) Ik (iS D) fun b o hb q=>hk' b o hb q;have C:=hk' S _ (by simpa using gb) x;have L:=AO h' S (AA fun _=>(#[]:Array Value));show wpAny _ X.A.in1 (updateSeq S (fun _=>#[]) >>= _) _ _ _;refine Ab ?_;refine wpAny_updateSeq (s:={s' with heap:=h',toks:=g}) C rfl (Ab (wpAny_letGo (Ac ?_)));refine hR i a n _ (Inv.turneds (s:={s' with heap:=h',toks:=g}) (t':=g) (ch:=[S]) I1 (iS jq) fun b o hb q=>(L.2 b (fun z=>hb (by simp[z]))).trans q) E G fun m hm=>?_;obtain⟨p,e'⟩:=List.mem_iff_getElem?.mp hm;have:=(List.getElem?_eq_some_iff.mp e').1;exact J p m ω e'
 |succ r ih=>
  intro j i s' a n c hr hj Ik x M E G J;have d:j+1<as.length:=ω
  refine A4 PySem.F.entry_max_loop ?_;rw[AX PySem.F.plain_max_loop _];show wpAny _ X.A.in1 (seqItems? (.ref S) >>= _) _ _ _;refine Ab (A0 x rfl ?_);show wpAny _ X.A.in1 (tryCatch (pyNext (.ref I)) _ >>= _) _ _ _;refine Ab (wpAny_tryCatch (W.item (j+1) _ _ _ (by rw[hsz];exact d) ⟨M,y _ Ik⟩ fun v h' g hP bd hk'=>?_));have e1:as[j+1]?=some (as[j+1]'(d)):=Ae d;have e2:u[j+1]?=some (u[j+1]'ω):=Ae ω;have hv:v=.ref (as[j+1]'(d)):=by
   have:(as.map Value.ref)[j+1]?=some v:=by simpa using hP
   rw[Ak,e1] at this;exact(Am this).symm
  subst hv;have I1:Inv X aa σ H {s' with heap:=h',toks:=g}:=Inv.turneds (t':=g) (ch:=[I]) Ik (iS D) fun b o hb q=>hk' b o hb q;have C:=hk' S _ (by simpa using gb) x;generalize as[j+1]'(d)=f at e1 ⊢;generalize (u[j+1]'ω)=n2 at e2;obtain⟨qi,pM,iH⟩:=Y.get e1;rw[e2] at pM;obtain rfl:=Am pM;obtain⟨n',oZ,T⟩:=Y.get E;rw[G] at oZ;obtain rfl:=Am oZ;obtain⟨i1,P,Q,_⟩:=I1.tuple (SqT.of (K:=X.K) iH);obtain⟨i2,r2,p2,_⟩:=I1.tuple (SqT.of (K:=X.K) T);show wpAny _ X.A.in1 (tryCatch (holding [.ref f,.ref f] (richCompare .Gt (.ref f) (.ref a) >>= _)) _ >>= _) _ _ _;refine Ab (wpAny_tryCatch (AM (Ab (MxT.Mn Q p2 (by simpa using intsAre_of P) (by simpa using intsAre_of r2) (by show X.A.units+1<cLine;exact hu) ?_))));refine Ab (AM (wpAny_truthy_bool ?_));refine Ab (wpAny_letGo (Ac ?_));cases hb':HT.lexLt n n2 with
  |true=>
   have L:=AO h' S (AA fun _=>#[.ref f,.ref f]);obtain⟨O,bA⟩:∃O,(h'.update S (AA fun _=>#[.ref f,.ref f])).get? S=some (seqObj "list" #[.ref f,.ref f] O):=⟨_,get?_update_seq C fun _=>#[.ref f,.ref f]⟩;simp only[if_true];refine Ab ?_;refine wpAny_updateSeq (s:={s' with heap:=h',toks:=g}) C rfl (Ab (wpAny_letGo ?_));rw[h];obtain⟨lF,gZ,ix,fq⟩:=id bd.1;refine Ac ⟨plainId_quiet PySem.F.plain_max_loop _,ih (j+1) (j+1) _ f n2 O ω d (Inv.turneds (s:={s' with heap:=h',toks:=g}) (t':=g) (ch:=[S]) I1 (iS jq) fun b o hb q=>(L.2 b (fun z=>hb (by simp[z]))).trans q) bA ⟨lF,(L.2 I gb.symm).trans gZ,ix,fq⟩ e1 e2 fun p m N em=>?_⟩
   by_cases e:p=j+1
   ·subst e
    rw[e2] at em;cases em;cases q:HT.lexLt n2 n2 with
    |false=>rfl
    |true=>rw[oH q] at q;cases q
   ·exact yU (J p m ω em) (oH hb')
  |false=>
   simp only[Au,if_false];refine Ab (wpAny_letGo ?_);rw[h];refine Ac ⟨plainId_quiet PySem.F.plain_max_loop _,ih (j+1) i _ a n c ω d I1 C bd.1 E G fun p m N em=>?_⟩
   by_cases e:p=j+1
   ·subst e
    rw[e2] at em;cases em;exact hb'
   ·exact J p m ω em
def yV(hc:X.calm=true)(hu:X.A.units+64<cLine):df X (.builtin "max") (fun xs H Q=>∃(l:Addr)(as:List Addr)(f:Ξ),xs=[.ref l]/\SqL X.K H l (as.map V.ref)/\Tps H as f/\f≠[]/\∀(j:Nat) a n,as[j]?=some a->f[j]?=some n->(∀m∈f,HT.lexLt n m=false)->Q (.ref a) H):=by
 intro aa s σ H xs us Q I r h;obtain⟨l,as,f,rfl,hl,D,nN,h⟩:=h;obtain⟨u,rfl,ru⟩:=vals1 r;cases ru;have hh:=I.ok.hd hc;have aw:=D.length;have c:0<as.length:=by have:=List.length_pos_iff.mpr nN;omega
 have e:(toString "max"++toString ".loop":String)="max.loop":=ξ
 have i:∀s',Inv X aa σ H s'->s'.heap.IsList l (as.map Value.ref).toArray:=fun s' Ik=>by
  obtain⟨ae,r1,p1,_⟩:=Ik.list hl;obtain rfl:=aQ r1;exact p1.isList
 have E:=i s I;obtain⟨ol,hol,_⟩:=id E;have iz:l<s⁻¹:=Ar hol;refine call_function_tree PySem.F.kind_max PySem.F.plain_max PySem.F.entry_max (PySem.F.args_max1 _) ?_;show wpAny _ X.A.in1 (Builtin.Builtins.bindParams "max" ["key","default"] 0 ⟨[],[]⟩ >>= _) _ _ s;refine Ab (wpAny_of_eq (show Builtin.Builtins.bindParams "max" ["key","default"] 0 ⟨[],[]⟩=pure [none,none] from rfl) ?_);refine Ab (Ac ?_);refine Ab (wpAny_pyIter_list E ?_);refine Ab (wpAny_newList ?_ (AL _));rw[e];have y:(s.heap.push {cls:=.type "list_iterator",data:=.fields #[.ref l,.int 0 0]}).objs.size=s⁻¹+1:=size_push' ..;have G:l≠s⁻¹:=Az iz;have C:(s.heap.push {cls:=.type "list_iterator",data:=.fields #[.ref l,.int 0 0]}).objs.size≠s⁻¹:=by rw[y];exact Nat.ne_of_gt (Nat.lt_succ_self _)
 have p:bm X aa H s⁻¹:=I.fpOk (Ag _) (I.hok.fresh (Ag _));have J:bm X aa H (s.heap.push {cls:=.type "list_iterator",data:=.fields #[.ref l,.int 0 0]}).objs.size:=I.fpOk (by rw[y];exact Nat.le_succ _) (I.hok.fresh (by rw[y];exact Nat.le_succ _));refine Ac ⟨plainId_quiet PySem.F.plain_max_loop _,?_⟩;have O:Inv X aa σ H {s with heap:=(s.heap.push {cls:=.type "list_iterator",data:=.fields #[.ref l,.int 0 0]}).push (seqObj "list" #[] 0)}:=I.kept (t':=s.toks) fun b u q=>Ad _ (Ad _ q);have gI:((s.heap.push {cls:=.type "list_iterator",data:=.fields #[.ref l,.int 0 0]}).push (seqObj "list" #[] 0)).get? s⁻¹=some {cls:=.type "list_iterator",data:=.fields #[.ref l,.int 0 0]}:=
  Ad _ (Ao _ rfl)
 have L:((s.heap.push {cls:=.type "list_iterator",data:=.fields #[.ref l,.int 0 0]}).push (seqObj "list" #[] 0)).get? (s.heap.push {cls:=.type "list_iterator",data:=.fields #[.ref l,.int 0 0]}).objs.size=some (seqObj "list" #[] 0):=Ao _ rfl;have W:=Walks.list (prog:=X.prog) (w:=X.w) (A:=X.A.in1) hh s⁻¹ l G (as.map Value.ref).toArray;have hsz:(as.map Value.ref).toArray.size=as.length:=by rw[Aj,Aa]
 generalize (s.heap.push {cls:=.type "list_iterator",data:=.fields #[.ref l,.int 0 0]}).objs.size=S at *;refine A4 PySem.F.entry_max_loop ?_;rw[AX PySem.F.plain_max_loop _];show wpAny _ X.A.in1 (seqItems? (.ref S) >>= _) _ _ _;refine Ab (A0 L rfl ?_);show wpAny _ X.A.in1 (tryCatch (pyNext (.ref s⁻¹)) _ >>= _) _ _ _;refine Ab (wpAny_tryCatch (W.item 0 _ _ _ (by rw[hsz];exact c) ⟨⟨_,gI,rfl,rfl⟩,i _ O⟩ fun v h' g P T hk'=>?_));have e1:as[0]?=some (as[0]'(c)):=Ae c;have e2:f[0]?=some (f[0]'ω):=Ae ω;have hv:v=.ref (as[0]'(c)):=by
  have:(as.map Value.ref)[0]?=some v:=by simpa using P
  rw[Ak,e1] at this;exact(Am this).symm
 subst hv;obtain⟨lF,gZ,ix,fq⟩:=id T.1;have I1:Inv X aa σ H {s with heap:=h',toks:=g}:=Inv.turneds (s:={s with heap:=(s.heap.push {cls:=.type "list_iterator",data:=.fields #[.ref l,.int 0 0]}).push (seqObj "list" #[] 0)}) (t':=g) (ch:=[s⁻¹]) O (iS p) fun b o hb q=>hk' b o hb q;have M:=hk' S _ (by simpa using C) L;generalize as[0]'(c)=d at e1 ⊢;generalize (f[0]'ω)=n2 at e2;have N:=AO h' S (AA fun _=>#[.ref d,.ref d]);obtain⟨x,bA⟩:∃x,(h'.update S (AA fun _=>#[.ref d,.ref d])).get? S=some (seqObj "list" #[.ref d,.ref d] x):=⟨_,get?_update_seq M fun _=>#[.ref d,.ref d]⟩;show wpAny _ X.A.in1 (updateSeq S (fun _=>#[.ref d,.ref d]) >>= _) _ _ _;refine Ab ?_;refine wpAny_updateSeq (s:={s with heap:=h',toks:=g}) M rfl ?_;rw[e];refine Ac ⟨plainId_quiet PySem.F.plain_max_loop _,Mo hh ω hl D J p C G (fun j a n s' Ij U Y hb=>?_) _ 0 0 _ d n2 x rfl c (Inv.turneds (s:={s with heap:=h',toks:=g}) (t':=g) (ch:=[S]) I1 (iS J) fun b o hb q=>(N.2 b (fun z=>hb (by simp[z]))).trans q) bA ⟨lF,(N.2 _ C.symm).trans gZ,ix,fq⟩ e1 e2 fun j' m hj' em=>?_⟩
 ·exact⟨.ref a,H,Ij,rfl,h j a n U Y hb⟩
 ·obtain rfl:j'=0:=ω
  rw[e2] at em;cases em;cases q:HT.lexLt n2 n2 with
  |false=>rfl
  |true=>rw[oH q] at q;cases q
end
end L2
end
section
namespace K50
open K1
open PySem L2 STb
def yW{cs:Ch}(h:(ksC cs).Nodup):(ksC (cs.filter dj)).Nodup:=(List.filter_sublist.map _).nodup h
def yX{c:List Int×Int}:dj c=true↔c.2≠0:=by
 unfold dj;simp
def eH(p:Int)(cs:Ch):Ch:=(cs.map fun c=>(c.1,c.2%p)).filter dj
def EV{p:Int}{cs:Ch}(a:(ksC cs).Nodup):(ksC (eH p cs)).Nodup:=yW (by rw[yH];exact a)
def EW{p:Int}{cs:Ch}(a:(ksC cs).Nodup)(x:List Int):ak (eH p cs) x=ak cs x%p:=by
 unfold eH;rw[sv x (by rw[yH];exact a),EI (g:=fun v=>v%p) (Int.zero_emod p)]
def Mp{p:Int}(hp:0<p){cs:Ch}(a:(ksC cs).Nodup):ChP p (eH p cs):=⟨EV a,fun c hc=>by
 obtain⟨h1,h2⟩:=List.mem_filter.mp hc;obtain⟨d,hd,rfl⟩:=List.mem_map.mp h1;have:=yX.mp h2;have:=Int.emod_nonneg d.2 (b:=p) ω;have:=Int.emod_lt_of_pos d.2 hp;show 1<=d.2%p/\d.2%p<p;have h3:d.2%p≠0:=yX.mp h2;omega⟩
def EX{cs:Ch}{q:List Int}(h:q∈ksC (cs.filter dj)):q∈ksC cs:=by
 obtain⟨c,hc,rfl⟩:=List.mem_map.mp h;exact List.mem_map.mpr ⟨c,(List.mem_filter.mp hc).1,rfl⟩
def put_in{cs:Ch}{ps:List Int}{n:Int}{c:List Int×Int}(h:c∈bF cs ps n):c∈cs\/c=(ps,n):=by
 unfold bF at h;split at h
 ·obtain⟨d,hd,e⟩:=List.mem_map.mp h
  split at e
  ·rename_i q
   exact .inr (by rw[<-e,q])
  ·exact .inl (e▸hd)
 ·rcases List.mem_append.mp h with h|h
  ·exact .inl h
  ·exact .inr (List.mem_singleton.mp h)
def Mq{p:Int}{cs:Ch}{q:List Int}(h:q∈ksC (eH p cs)):q∈ksC cs:=by
 rw[<-yH (fun c=>c.2%p) cs];exact EX h
def lsK(p k:Int)(h:Ch)(c:List Int×Int):Ch:=bF h c.1 ((ak h c.1-k*c.2)%p)
def gB(p k:Int)(h b:Ch):Ch:=(b.foldl (lsK p k) h).filter dj
def sR{p k:Int}:∀(b h:Ch),(ksC h).Nodup->(ksC (b.foldl (lsK p k) h)).Nodup
 |[],_,n=>n
 |c::b,h,n=>sR b _ (Ez _ _ n)
def EY{p k:Int}(hp:0<p):∀(b h:Ch),(∀c∈h,0<=c.2/\c.2<p)->∀c∈b.foldl (lsK p k) h,0<=c.2/\c.2<p
 |[],_,n=>n
 |c::b,h,n=>EY hp b _ fun d hd=>by
  rcases put_in hd with hd|rfl
  ·exact n d hd
  ·exact⟨Int.emod_nonneg _ ω,Int.emod_lt_of_pos _ hp⟩
def lsK_key{p k:Int}:∀(b h:Ch){q:List Int},q∈ksC (b.foldl (lsK p k) h)->q∈ksC h\/q∈ksC b
 |[],_,_,n=>.inl n
 |c::b,h,q,n=>by
  rcases lsK_key b _ n with n|n
  ·rcases putC_mem n with n|rfl
   ·exact .inl n
   ·exact .inr (.head _)
  ·exact .inr (.tail _ n)
def EZ{p k:Int}(x:List Int):∀(b h:Ch),(ksC b).Nodup->ak (b.foldl (lsK p k) h) x=if x∈ksC b then(ak h x-k*ak b x)%p else ak h x
 |[],h,_=>(if_neg (fun z=>nomatch z)).symm
 |c::b,h,n=>by
  have a:c.1∉ksC b/\(ksC b).Nodup:=List.nodup_cons.mp n;show ak (b.foldl (lsK p k) (lsK p k h c)) x=_;rw[EZ x b _ a.2];unfold lsK;rw[ED];have hk:ksC (c::b)=c.1::ksC b:=rfl
  by_cases e:x=c.1
  ·subst e
   rw[if_neg a.1,if_pos rfl,if_pos (by rw[hk];exact .head _),ku n c (.head _)]
  ·rw[if_neg e,hk]
   have d:ak (c::b) x=ak b x:=by
    unfold ak;rw[List.find?_cons_of_neg (by simpa using fun z=>e z.symm)]
   by_cases hx:x∈ksC b
   ·rw[if_pos hx,if_pos (.tail _ hx),d]
   ·rw[if_neg hx,if_neg (fun z=>(List.mem_cons.mp z).elim e hx)]
def E1{p k:Int}(hp:0<p){h b:Ch}(ok:ChP p h):ChP p (gB p k h b):=⟨yW (sR _ _ ok.nd),fun c hc=>by
 obtain⟨h1,h2⟩:=List.mem_filter.mp hc;have:=yX.mp h2;have:=EY hp b h (fun d hd=>by have:=ok.lo d hd;omega) c h1;omega⟩
def Mr{p k:Int}(hp:0<p){h b:Ch}(ok:ChP p h)(a:(ksC b).Nodup)(x:List Int):ak (gB p k h b) x=(ak h x-k*ak b x)%p:=by
 unfold gB;rw[sv x (sR _ _ ok.nd),EZ x b h a]
 by_cases e:x∈ksC b
 ·rw[if_pos e]
 ·rw[if_neg e,kq e,Int.mul_zero,Int.sub_zero]
  have:=ok.range hp x;exact(Int.emod_eq_of_lt this.1 this.2).symm
def lsF_key{p k:Int}{h b:Ch}{q:List Int}(hq:q∈ksC (gB p k h b)):q∈ksC h\/q∈ksC b:=lsK_key b h (EX hq)
abbrev LU(U:Ξ):Prop:=U.Pairwise fun a b=>HT.lexLt a b=true
def Mt{a b c:List Int}(h:HT.lexLt a b=true)(g:HT.lexLt b c=true):HT.lexLt a c=true:=by
 cases d:HT.lexLt a c with
 |true=>rfl
 |false=>rw[yU (a:=c) (b:=a) (c:=b) d (oH h)] at g;cases g
def E2:∀(U:Ξ)(k:List Int),LU U->∃W,LU W/\W.length<=U.length+1/\∀x,x∈W↔x=k\/x∈U
 |[],k,_=>⟨[k],List.pairwise_singleton _ _,Ag _,fun x=>by simp⟩
 |a::U,k,h=>by
  obtain⟨h1,h2⟩:=List.pairwise_cons.mp h
  by_cases e:k=a
  ·exact⟨a::U,h,Nat.le_succ _,fun x=>by subst e;simp⟩
  cases c:HT.lexLt k a with
  |true=>
   refine⟨k::a::U,List.pairwise_cons.mpr ⟨fun b hb=>?_,h⟩,Ag _,fun x=>by simp⟩;rcases List.mem_cons.mp hb with rfl|hb
   ·exact c
   ·exact Mt c (h1 b hb)
  |false=>
   have j:HT.lexLt a k=true:=by
    cases d:HT.lexLt a k with
    |true=>rfl
    |false=>exact absurd (qE k a c d) e
   obtain⟨W,g,i,f⟩:=E2 U k h2;refine⟨a::W,List.pairwise_cons.mpr ⟨fun b hb=>?_,g⟩,Nat.succ_le_succ i,fun x=>?_⟩
   ·rcases(f b).mp hb with rfl|hb
    ·exact j
    ·exact h1 b hb
   ·rw[List.mem_cons,f,List.mem_cons]
    constructor
    ·rintro(q|q|q)
     ·exact .inr (.inl q)
     ·exact .inl q
     ·exact .inr (.inr q)
    ·rintro(q|q|q)
     ·exact .inr (.inl q)
     ·exact .inl q
     ·exact .inr (.inr q)
def E3:∀ks:Ξ,∃U,LU U/\U.length<=ks.length/\∀x,x∈U↔x∈ks
 |[]=>⟨[],List.Pairwise.nil,Ag _,fun _=>Iff.rfl⟩
 |k::ks=>by
  obtain⟨U,h1,h2,h3⟩:=E3 ks;obtain⟨W,a,c,b⟩:=E2 U k h1;exact⟨W,a,by rw[An];omega,fun x=>by rw[b,h3,List.mem_cons]⟩
def Top(cs:Ch)(y:List Int):Prop:=y∈ksC cs/\∀m∈ksC cs,HT.lexLt y m=false
section
variable{p:Int}{U:Ξ}{R:List Ch}{es:List (List Int×Ch)}{aK ah:Ch}{m:Nat}
def E4(h:LU U){u t:Nat}{x y:List Int}(hx:U[u]?=some x)(hy:U[t]?=some y)(l:HT.lexLt y x=false):u<=t:=by
 refine Nat.le_of_not_lt fun z=>?_;obtain⟨h1,rfl⟩:=List.getElem?_eq_some_iff.mp hx;obtain⟨h2,rfl⟩:=List.getElem?_eq_some_iff.mp hy;rw[List.pairwise_iff_getElem.mp h t u h2 h1 z] at l;cases l
def Mu(h:LU U){cs:Ch}(hp:0<p)(ok:ChP p cs){y:List Int}(tp:Top cs y){t:Nat}(a:U[t]?=some y):Bar.Yg p (kz U cs) t:=by
 refine⟨fun z=>?_,fun u hu=>?_⟩
 ·rw[EJ a] at z
  have:=ok.at tp.1;have:=Int.le_of_dvd ω z;omega
 ·cases e:U[u]? with
  |none=>rw[Mf (by simpa using e)];exact AE _
  |some x=>
   rw[EJ e];have:x∉ksC cs:=fun hx=>by have:=E4 h e a (tp.2 x hx);omega
   rw[kq this];exact AE _
structure HdOk(p:Int)(U:Ξ)(R:List Ch)(es:List (List Int×Ch)):Prop where
 nd:(es.map (·.1)).Nodup
 ok:∀e∈es,ChP p e.2/\Top e.2 e.1/\∀q∈ksC e.2,q∈U
 sp:∀e∈es,Bar.bX p (R.map ak) (ak e.2)
abbrev kA(es:List (List Int×Ch)):List (List Int->Int):=es.map fun e=>ak e.2
def yY{y:List Int}(h:y∈U):U[U.idxOf y]?=some y:=by
 rw[Ae (List.idxOf_lt_length_of_mem h),List.getElem_idxOf]
def HdOk.lz(h:HdOk p U R es)(hp:0<p)(g:LU U):Bar.Lz p U (es.map fun e=>(U.idxOf e.1,ak e.2)):=by
 have c:∀e∈es,e.1∈U:=fun e he=>(h.ok e he).2.2 _ (h.ok e he).2.1.1;refine⟨?_,fun r hr=>?_⟩
 ·rw[Ap]
  have:=h.nd;rw[List.nodup_iff_pairwise_ne,A2] at this ⊢;refine(List.Pairwise.and_mem.mp this).imp fun{a b} ⟨d,hb,f⟩ z=>f ?_;have e1:=yY (c a d);have e2:=yY (c b hb);rw[show U.idxOf a.1=U.idxOf b.1 from z] at e1;exact Am (e1.symm.trans e2)
 ·obtain⟨e,he,rfl⟩:=List.mem_map.mp hr
  exact Mu g hp (h.ok e he).1 (h.ok e he).2.1 (yY (c e he))
def Mv:(es.map fun e=>(U.idxOf e.1,ak e.2)).map (·.2)=kA es:=by rw[Ap];rfl
structure fw(p:Int)(U:Ξ)(R:List Ch)(es:List (List Int×Ch))(aK ah:Ch)(m:Nat):Prop where
 ok:ChP p ah
 u:∀q∈ksC ah,∃u,u<m/\U[u]?=some q
 s1:Bar.bX p (kA es) fun x=>ak aK x-ak ah x
 s2:Bar.bX p (R.map ak) (ak ah)
def Mw(hp:0<p)(hr:aK∈R)(a:(ksC aK).Nodup)(hu:∀q∈ksC aK,q∈U):fw p U R es aK (eH p aK) U.length:=by
 refine⟨Mp hp a,fun q hq=>?_,Bar.iD fun x=>?_,Bar.fQ (fun x=>?_) (Bar.zR (List.mem_map.mpr ⟨aK,hr,rfl⟩))⟩
 ·obtain⟨u,e⟩:=List.mem_iff_getElem?.mp (hu q (Mq hq))
  exact⟨u,(List.getElem?_eq_some_iff.mp e).1,e⟩
 ·rw[EW a];exact sG _ _
 ·rw[EW a]
  have:=sG (ak aK x) p;rw[show ak aK x%p-ak aK x=-(ak aK x-ak aK x%p) from ω];exact Int.dvd_neg.mpr this
def Mx(hp:0<p)(j:LU U)(hd:HdOk p U R es)(h:fw p U R es aK ah m){y:List Int}{b:Ch}(hb:(y,b)∈es)(tp:Top ah y){k:Int}(hk:k*ak b y%p=ak ah y):∃u,u<m/\fw p U R es aK (gB p k ah b) u:=by
 obtain⟨a,f,c⟩:=h.u y tp.1;obtain⟨g,tb,i⟩:=hd.ok _ hb;have get:=fun x=>Mr (k:=k) hp h.ok g.nd x;have d:∀x,p ∣ (ak ah x-k*ak b x)-ak (gB p k ah b) x:=fun x=>by rw[get];exact sG _ _
 refine⟨a,f,E1 hp h.ok,fun q hq=>?_,Bar.fQ (fun x=>?_) (Bar.hY (k:=k) (Bar.zR (List.mem_map.mpr ⟨_,hb,rfl⟩)) h.s1),Bar.fQ (fun x=>?_) (Bar.hY (k:=-k) (hd.sp _ hb) h.s2)⟩
 ·have ne:q≠y:=fun z=>by
   subst z;have h1:=(E1 (k:=k) (b:=b) hp h.ok).at hq;rw[get,<-hk] at h1;have:p ∣ (k*ak b q%p-k*ak b q):=by
    have:=sG (k*ak b q) p;rw[show k*ak b q%p-k*ak b q=-(k*ak b q-k*ak b q%p) from ω];exact Int.dvd_neg.mpr this
   rw[Int.emod_eq_zero_of_dvd this] at h1;omega
  have fin:∀u,U[u]?=some q->HT.lexLt y q=false->∃u,u<a/\U[u]?=some q:=fun u e l=>by
   have:=E4 j e c l;refine⟨u,Nat.lt_of_le_of_ne this fun z=>?_,e⟩;subst z;exact ne (Am (e.symm.trans c))
  rcases lsF_key hq with hq|hq
  ·obtain⟨u,_,e⟩:=h.u q hq
   exact fin u e (tp.2 q hq)
  ·obtain⟨u,e⟩:=List.mem_iff_getElem?.mp (i q hq)
   exact fin u e (tb.2 q hq)
 ·have:=d x
  rw[show ak aK x-ak (gB p k ah b) x-(k*ak b x+(ak aK x-ak ah x))=ak ah x-k*ak b x-ak (gB p k ah b) x from ω];exact this
 ·have:=Int.dvd_neg.mpr (d x)
  rw[show -(ak ah x-k*ak b x-ak (gB p k ah b) x)=ak (gB p k ah b) x-(-k*ak b x+ak ah x) by rw[Int.neg_mul];omega] at this;exact this
def yx{e:List Int×Ch}{f:List Int->Int}(h:Bar.bX p (kA es) f):Bar.bX p (kA (es++[e])) f:=Bar.jf h fun v a=>by
 obtain⟨q,hq,rfl⟩:=List.mem_map.mp a;exact Bar.zR (List.mem_map.mpr ⟨q,List.mem_append_left _ hq,rfl⟩)
def Mz(h:fw p U R es aK [] m):Bar.bX p (kA es) (ak aK):=Bar.fQ (fun x=>by
 show p ∣ ak aK x-(ak aK x-0);rw[Int.sub_zero,Int.sub_self];exact AE _) h.s1
def MA(hd:HdOk p U R es)(h:fw p U R es aK ah m){y:List Int}(tp:Top ah y)(d:y∉es.map (·.1)):HdOk p U R (es++[(y,ah)])/\Bar.bX p (kA (es++[(y,ah)])) (ak aK):=by
 refine⟨⟨?_,fun e he=>?_,fun e he=>?_⟩,?_⟩
 ·rw[Ah,AU]
  refine⟨hd.nd,by simp,fun a c b hb z=>?_⟩;obtain rfl:b=y:=by simpa using hb
  exact d (z▸c)
 ·rcases List.mem_append.mp he with he|he
  ·exact hd.ok e he
  ·obtain rfl:=List.mem_singleton.mp he
   exact⟨h.ok,tp,fun q hq=>by obtain⟨u,_,e⟩:=h.u q hq;exact Al e⟩
 ·rcases List.mem_append.mp he with he|he
  ·exact hd.sp e he
  ·obtain rfl:=List.mem_singleton.mp he
   exact h.s2
 ·refine Bar.fQ (fun x=>?_) (Bar.hY (k:=1) (yx (e:=(y,ah)) h.s1) (Bar.zR (List.mem_map.mpr ⟨(y,ah),AQ _ (.head _),rfl⟩)))
  show p ∣ ak aK x-(1*(ak aK x-ak ah x)+ak ah x);rw[show ak aK x-(1*(ak aK x-ak ah x)+ak ah x)=0 from ω];exact AE _
def E5(a:LU U){cs:Ch}(ok:ChP p cs)(h:∀q∈ksC cs,q∈U):cs.length<=U.length:=by
 rw[<-kd];exact ok.nd.length_le_of_subset h
end
abbrev lL:Stmt:=top 43
abbrev kB:R2:=rI (fun _ j=>0<j) fun i j=>.int (i%j)
abbrev E6:TT:=gX (cr uO (cr kB (iP (am 1) (am 0)) (am 2)) (tC (.int 0)))
abbrev E7:TE:=c5 (cD (am 0) (cD (cr kB (iP (am 1) (am 0)) (am 2)) bB))
section
variable{P:Program}{w:World}{K:Af}{mg:Str->Option Value}{base:Heap}{f:Addr}{fd:FuncData}
def MB{H2:Hp}{L D d:Addr}{as:List Addr}{f:Ch}{p:Int}{Q:VK}(y:0<p)(hl:H2 L=some (.lst (as.map V.ref)))(A:Tps H2 as (ksC f))(hd:H2 d=some (.dT (a6 f)))(hn:(ksC f).Nodup)(hz:f.length<=1000)(C:H2 D=none)(k:∀(b:Hp)(ts:List Addr),Same H2 b->b D=some (.lst (ts.map V.ref))->Prs b ts (eH p f)->Q (.ref D) b):cg (dn K L) (cn 0) E6 E7 [none,some (.ref d),some (.int p)] H2 D Q:=by
 have w:=A.length;rw[kd] at w;refine zH (xs:=as.map V.ref) (fun j σ ys b=>∃(v:Option V)(ts:List Addr),σ=[v,some (.ref d),some (.int p)]/\Same H2 b/\b D=some (.lst ys)/\ys=ts.map V.ref/\Prs b ts (eH p (f.take j))) ?_ ?_ ?_ ?_
 ·exact⟨none,[],rfl,Same.new C,za,rfl,.nil⟩
 ·rintro j σ ys b ⟨v,ts,rfl,sm,e,rfl,hp⟩
  exact SqL.of (sm _ _ hl)
 ·rintro j σ ys b x hx s hy ⟨v,ts,rfl,sm,e,rfl,hp⟩
  obtain⟨a,F,rfl⟩:=zD hx;obtain⟨ps,l,u⟩:=A.get F;unfold ksC at l;rw[Ak] at l;obtain⟨c,q,rfl⟩:=Option.map_eq_some_iff.mp l;have hsz:(as.map V.ref).length<=sizeLine:=by rw[Aa];exact zf ω
  have g:∀r,Same b r->DGet r d (.ref a) (some (.int c.2)):=fun r h=>.inr ⟨a6 f,c.1.map Sum.inl,a,.inl (h _ _ (sm _ _ hd)),rfl,dO (h.tp (sm.tp u)),(kh hn c (Al q)).symm⟩;refine⟨_,rfl,_,rfl,d,_,rfl,g b (Same.refl _),_,rfl,_,_,rfl,rfl,y,rfl,_,rfl,?_⟩;have em:eH p (f.take j++[c])=eH p (f.take j)++[(c.1,c.2%p)].filter dj:=by unfold eH;rw[Ah,AK];rfl
  cases hz0:dj (c.1,c.2%p) with
  |true=>
   have i:(!decide (V.int (c.2%p)=V.int 0))=true:=hz0;rw[i];refine bb ⟨_,rfl,_,rfl,_,rfl,d,_,rfl,g b (Same.refl _),_,rfl,_,_,rfl,rfl,y,zf (by simp),fun t E=>?_⟩;have h:=Same.new (o:=.tup [.ref a,.int (c.2%p)]) E;refine bx hsz s hy (h _ _ e) ⟨_,ts++[t],rfl,(sm.trans h).then C,za,by rw[Ah];rfl,?_⟩;rw[AF q,em,List.filter_cons_of_pos hz0];exact Prs.upd (Prs.snoc (hp.same h) ⟨a,za,h.tp (sm.tp u)⟩) (h _ _ e) (by intro xs z;cases z)
  |false=>
   have i:(!decide (V.int (c.2%p)=V.int 0))=false:=hz0;rw[i];refine aW (b7 s hy ⟨_,ts,rfl,sm,e,rfl,?_⟩);rw[AF q,em,AT (by rw[hz0];decide),List.filter_nil,AN];exact hp
 ·rintro σ ys b ⟨v,ts,rfl,sm,e,rfl,hp⟩
  rw[Aa,w,take_all] at hp;exact k b ts sm e hp
abbrev Hs:=List (Addr×List Int×Ch)
def gC(hs:Hs):List (List Key×V):=hs.map fun h=>(h.2.1.map Sum.inl,V.ref h.1)
abbrev dE(hs:Hs):List (List Int×Ch):=hs.map (·.2)
def yZ(hs:Hs):(dE hs).map (·.1)=hs.map fun h=>h.2.1:=by unfold dE;rw[Ap];rfl
def E8(hs:Hs)(q:List Int):(aU (gC hs) (q.map Sum.inl)).isSome=decide (q∈(dE hs).map (·.1)):=by
 rw[<-kO,Bool.eq_iff_iff,List.any_eq_true,decide_eq_true_eq,yZ];unfold gC;constructor
 ·rintro⟨kv,hm,e⟩
  obtain⟨h,hh,rfl⟩:=List.mem_map.mp hm;exact List.mem_map.mpr ⟨h,hh,fI.mp (of_decide_eq_true e)⟩
 ·intro h
  obtain⟨e,he,rfl⟩:=List.mem_map.mp h;exact⟨_,List.mem_map.mpr ⟨e,he,rfl⟩,decide_eq_true rfl⟩
def E9:∀{hs:Hs},((dE hs).map (·.1)).Nodup->∀h∈hs,aU (gC hs) (h.2.1.map Sum.inl)=some (.ref h.1)
 |[],_,h,hc=>absurd hc (by simp)
 |d::hs,n,h,hc=>by
  have b:d.2.1∉(dE hs).map (·.1)/\((dE hs).map (·.1)).Nodup:=List.nodup_cons.mp n;rcases List.mem_cons.mp hc with rfl|hc
  ·exact pH (p:=(h.2.1.map Sum.inl,V.ref h.1)) rfl
  ·have a:¬d.2.1.map Sum.inl=(h.2.1.map Sum.inl:List Key):=fun z=>b.1 (by rw[fI.mp z,yZ];exact List.mem_map.mpr ⟨h,hc,rfl⟩)
   exact(pJ (p:=(d.2.1.map Sum.inl,V.ref d.1)) a).trans (E9 b.2 h hc)
def MC{hs:Hs}{q:List Int}{c:Addr}{cs:Ch}(h:q∉(dE hs).map (·.1)):putK (gC hs) (q.map Sum.inl) (.ref c)=gC (hs++[(c,q,cs)]):=by
 unfold putK;rw[if_neg (by
  rw[kO,E8]
  simpa using h)]
 unfold gC;rw[Ah]
 rfl
def y0{H:Hp}{L:Addr}{bs:List Addr}{ah:Ch}(d:H L=none)(e:Paired (fun(p:List Key×V) b=>H b=some (.tup (p.1.map kV))) (a6 ah) bs){j:Nat}{a:Addr}{n:List Int}(f:bs[j]?=some a)(c:(ksC ah)[j]?=some n)(hm:∀m∈ksC ah,HT.lexLt n m=false):Tp (upd H L (.lst (bs.map V.ref))) a n/\Top ah n:=by
 have s:=Same.new (o:=.lst (bs.map V.ref)) d;have tb:=s.tps (iB e);obtain⟨q,eq,hq⟩:=tb.get f;rw[c] at eq;cases eq;exact⟨hq,Al c,hm⟩
def y3{H:Hp}{c z:Addr}{ah:Ch}(hc:H c=some (.dT (a6 ah)))(hz:H z=some (.dT [])):eV H c z (decide (ah=[])):=by
 refine⟨a6 ah,[],ksC ah,[],ah.map (·.2),.inl hc,.inl hz,?_,rfl,?_,?_⟩
 ·unfold a6 ksC;rw[Ap,Ap];rfl
 ·unfold a6;rw[Ap,Ap];rfl
 ·cases ah with
  |nil=>exact .inl ⟨by simp,rfl,fun kv h=>nomatch h⟩
  |cons a r=>exact .inr ⟨by simp,by unfold a6;simp⟩
abbrev E_:TT:=gX (cr pu (cr kB (cr (rI CMul fun i j=>.int (i*j)) (am 0) (iP (am 1) (am 2))) (am 3)) (iP (am 4) (am 2)))
def MD{H2:Hp}{D o t h:Addr}{wt g p:Int}{n:Nat}{Q:VK}(hn:n<=100)(hw:-(2 ^ 64)<wt/\wt<2 ^ 64)(hp:0<p)(c:H2 D=none)(d:∀a,Same H2 a->DGet a o (.ref t) (some (.int wt)))(hh:∀a,Same H2 a->DGet a h (.ref t) (some (.int g)))(k:∀a,Same H2 a->a D=some (.lst (((AB n).filter fun j:Nat=>decide ((1+(j:Int))*wt%p=g)).map fun j:Nat=>V.int (1+j)))->Q (.ref D) a):cg (eN 1 n) (cn 0) E_ (am 0) [none,some (.ref o),some (.ref t),some (.int p),some (.ref h)] H2 D Q:=by
 refine pU (fun j σ ys a=>∃(v:Option V),σ=[v,some (.ref o),some (.ref t),some (.int p),some (.ref h)]/\Same H2 a/\a D=some (.lst ys)/\ys=(((AB n).take j).filter fun j:Nat=>decide ((1+(j:Int))*wt%p=g)).map fun j:Nat=>V.int (1+j)) ?_ ?_ ?_
 ·exact⟨none,rfl,Same.new c,za,rfl⟩
 ·rintro i σ ys a hi hy ⟨v,rfl,sm,b,rfl⟩
  have e:(AB n)[i]?=some i:=by rw[List.getElem?_range hi]
  refine⟨_,rfl,_,rfl,_,rfl,o,_,rfl,d a sm,_,_,rfl,rfl,.inr hw,_,rfl,_,_,rfl,rfl,hp,_,rfl,_,rfl,h,_,rfl,hh a sm,rfl,_,rfl,?_⟩
  by_cases h:(1+(i:Int))*wt%p=g
  ·rw[decide_eq_true (congrArg V.int h)]
   refine bb ⟨_,rfl,bx (zf ω) hi hy b ⟨_,rfl,sm.then c,za,?_⟩⟩;rw[AF e,AK,List.filter_cons_of_pos (by exact decide_eq_true h),List.filter_nil,Ah]
   rfl
  ·rw[decide_eq_false (fun z=>h (by injection z))]
   refine aW (b7 hi hy ⟨_,rfl,sm,b,?_⟩);rw[AF e,AK,AT (by simpa using h),List.filter_nil,AN]
 ·rintro σ ys a ⟨v,rfl,sm,b,rfl⟩
  rw[Ax (by rw[List.length_range];exact Ag _)] at b;exact k a sm b
def Fb{cs:Ch}{x y:List Int}(a:Top cs x)(b:Top cs y):x=y:=qE x y (a.2 y b.1) (b.2 x a.1)
def ME{p wt g:Int}(hp:isP p)(hw:1<=wt/\wt<p)(b:1<=g/\g<p):∃j:Nat,j<(p-1).toNat/\(1+(j:Int))*wt%p=g:=by
 obtain⟨k,c,a⟩:=hp.pr.1.into wt g fun z=>by have:=Int.le_of_dvd ω z;omega
 cases k with
 |zero=>
  rw[show(((0:Nat):Int))*wt-g=-g by simp] at a;have:=Int.le_of_dvd ω (Int.dvd_neg.mp a);omega
 |succ j=>
  refine⟨j,ω,?_⟩;have e:(1+(j:Int))*wt=((j+1:Nat):Int)*wt-g+g:=by
   rw[show((j+1:Nat):Int)=1+(j:Int) from ω];omega
  rw[e,Int.add_emod,Int.emod_eq_zero_of_dvd a,Int.zero_add,Int.emod_emod,Int.emod_eq_of_lt ω b.2]
def y4(K:Af):Sp:=fun vs H Q _=>∃(l:Addr)(ds:List Addr)(a:List Ch)(p:Int),vs=[.ref l,.int p]/\SqL K H l (ds.map V.ref)/\Paired (fun d cs=>H d=some (.dT (a6 cs))) ds a/\(∀cs∈a,(ksC cs).Nodup)/\(a.flatMap ksC).length<=500/\a.length<=500/\isP p/\
 ∀U A H',Same H H'->Bar.Lz p U A->(∀r∈A,Bar.bX p (a.map ak) r.2)->(∀cs∈a,Bar.bX p (A.map (·.2)) (ak cs))->Q (.int A.length) H'
abbrev nR:List Str:=["rows","prime","heads","row","here","top","other","often","key"]
def iF:zq nR ["rows","prime"] (zh lL):=⟨rfl,rfl,rfl,δ,rfl,δ,δ⟩
def MF(F:Fun K "_law_rank" "_law_rank" lL f fd)(B:Bt mg)(kM:mg "dict"=none)(oC:mg "max"=none):FnOk P w K mg base aJ 1 f fd ["rows","prime"] (y4 K):=by
 refine F.ok iF (fun vs H Q E h=>?_) (fun cdv A outer s H vs Q E hr h=>?_)
 ·obtain⟨l,ds,N,p,rfl,_⟩:=h;rfl
 ·obtain⟨l,ds,N,p,rfl,hl,cV,hnd,xh,hr5,hp,k⟩:=h
  have hu:=gY hr;have aD:=hr.units;have dG:0<p:=by have:=hp.pr.1.two;omega
  have kc:=hp.pr.2;obtain⟨U,lu,lU,mU⟩:=E3 (N.flatMap ksC);have inU:∀cs∈N,∀q∈ksC cs,q∈U:=fun cs hc q hq=>(mU q).mpr (List.mem_flatMap.mpr ⟨cs,hc,hq⟩);refine⟨_,zd (zp (i:=2) iF.nd rfl (Or.inl rfl) iQ)
   (zd (zK AG rfl (zr (pv 0)) (zk (i:=3) iF.nd rfl (Or.inr rfl))
    (zd (zp (i:=4) iF.nd rfl (Or.inr rfl) (zm (oz rfl aD) rfl kM yI (zb (zw nR ["key","row","prime"] [none,some 3,some 1] (zr (zm (zG rfl) rfl B.list du (zb (pv 3) zc))) (fun cl C s₀ H₀ ex=>zk (i:=0) (cF ["key","row","prime"]) rfl (Or.inl rfl))
     (fun cl C s₀ H₀ ex=>g0 (zt kI (zx fH (zP hu (pv 1) (pv 0) (fun _ _=>rfl)) (pv 2)) zi (ao _))) (fun cl C s₀ H₀ ex=>ei (zb (pv 0) (zb (zx fH (zP hu (pv 1) (pv 0) (fun _ _=>rfl)) (pv 2)) zc))) (hfr:=ci (zh lL) δ) (tc:=E6) (te:=E7)) zc)))
    (zd (Bo AG (PW.pt (FZ (zt (Ew aD) (pv 4) iQ (ao _)) (FY (Bg (G4 hu (zl (yV rfl aD) rfl oC rV (zb (zm (zG rfl) rfl B.list du (zb (pv 4) zc)) zc)) (pv 2)) (by with_unfolding_all rfl)))))
     (zd (zp (i:=5) iF.nd rfl (Or.inr rfl) (zl (yV rfl aD) rfl oC rV (zb (zm (zG rfl) rfl B.list du (zb (pv 4) zc)) zc)))
     (zd (zp (i:=6) iF.nd rfl (Or.inr rfl) (zP hu (pv 2) (pv 5) (fun _ _=>rfl)))
     (zd (zp (i:=7) iF.nd rfl (Or.inl rfl) (cd zU (zw nR ["k","other","top","prime","here"] [none,some 6,some 5,some 1,some 4] (uB rfl B.range (zb zi (zb (pv 1) zc))) (fun cl C s₀ H₀ ex=>zk (i:=0) (cF ["k","other","top","prime","here"]) rfl (Or.inl rfl))
      (fun cl C s₀ H₀ ex=>g0 (zt gU (zx fH (zx gS (pv 0) (zP hu (pv 1) (pv 2) (fun _ _=>rfl))) (pv 3)) (zP hu (pv 4) (pv 2) (fun _ _=>rfl)) (ao _))) (fun cl C s₀ H₀ ex=>pv 0) (hfr:=ci (zh lL) δ) (tc:=E_) (te:=am 0)) zi (fun _ _=>rfl)))
     (zd (zK AG rfl (zr (zm (zG rfl) rfl B.list du (zb (pv 6) zc))) (zk (i:=8) iF.nd rfl (Or.inl rfl))
      (zg (ik hu (pv 4) (pv 8) (zx fH (zx jn (vN hu (pv 4) (pv 8) zi ⟨rfl,rfl,rfl,rfl⟩) (zx gS (pv 7) (zP hu (pv 6) (pv 8) (fun _ _=>rfl)))) (pv 1)) rfl)))
     (zg (zp (i:=4) iF.nd rfl (Or.inr rfl) (zm (oz rfl aD) rfl kM yI (zb (zw nR ["key","here"] [none,some 4] (zr (zm (zG rfl) rfl B.list du (zb (pv 4) zc))) (fun cl C s₀ H₀ ex=>zk (i:=0) (cF ["key","here"]) rfl (Or.inl rfl))
      (fun cl C s₀ H₀ ex=>g0 (zt kI (zP hu (pv 1) (pv 0) (fun _ _=>rfl)) zi (ao _))) (fun cl C s₀ H₀ ex=>ei (zb (pv 0) (zb (zP hu (pv 1) (pv 0) (fun _ _=>rfl)) zc))) (hfr:=ci (zh lL) δ) (tc:=yK) (te:=yL)) zc)))))))))
    (zg (cY (zt (Ew aD) (pv 4) iQ (ao _)) (zg (ik hu (pv 2) (zl (yV rfl aD) rfl oC rV (zb (zm (zG rfl) rfl B.list du (zb (pv 4) zc)) zc)) (pv 4) rfl)) zE)))))
   (zg (zu (zl LX rfl B.len cH (zb (pv 2) zc))))),?_⟩
  intro hd ql;have aw:ds.length=N.length:=cV.length;have s0:=Same.new (o:=.dT []) ql;refine⟨_,rfl,l,rfl,⟨_,s0.seq hl⟩,zC (K:=K) (a:=l) (xs:=ds.map V.ref) (fun i σ H2=>∃(hs:Hs)(v3 v4 v5 v6 v7 O:Option V),σ=[some (.ref l),some (.int p),some (.ref hd),v3,v4,v5,v6,v7,O]/\Same H H2/\H2 hd=some (.dT (gC hs))/\(∀h∈hs,H2 h.1=some (.dT (a6 h.2.2))/\h.1≠hd)/\hs.length<=i/\HdOk p U N (dE hs)/\∀cs∈N.take i,Bar.bX p (kA (dE hs)) (ak cs))
   ⟨[],none,none,none,none,none,none,rfl,s0,za,(fun h z=>nomatch z),Ag _,⟨A7,(fun e z=>nomatch z),(fun e z=>nomatch z)⟩,fun cs z=>nomatch z⟩ (fun i σ H2 _ ⟨_,_,_,_,_,_,_,_,sm,_⟩=>sm.seq hl) ?_ ?_⟩
  ·rintro i x σ H2 hx ⟨hs,v3,v4,v5,v6,v7,O,rfl,sm,cx,T,uA,HD,done⟩
   obtain⟨d,ed,rfl⟩:=zD hx;have hi:i<N.length:=by have:=(List.getElem?_eq_some_iff.mp ed).1;omega
   obtain⟨aK,er⟩:∃r,N[i]?=some r:=⟨_,Ae hi⟩;have eJ:=Al er;have aL:H2 d=some (.dT (a6 aK)):=sm _ _ (iR cV i _ _ ed er);have ln:=hnd aK eJ;have sH:aK.length<=500:=by
    have:=(List.sublist_flatten_of_mem (List.mem_map.mpr ⟨aK,eJ,rfl⟩):(ksC aK).Sublist (N.map ksC).flatten).length_le;rw[<-List.flatMap_def,kd] at this;omega
   refine⟨_,rfl,d,a6 aK,rfl,.inl aL,fun bs pb L hL=>⟨L,rfl,⟨_,SqL.of za⟩,fun D hD=>zF (MB dG za ((Same.new hL).tps (iB pb)) (Same.new hL _ _ aL) ln ω hD fun H3 ts s3 hD3 dU=>?_)⟩⟩;refine⟨D,ts,a6 (eH p aK),rfl,SqL.of hD3,yM dU,fun c0 qx=>?_⟩;rw[yE,yJ _ (EV ln)];have pB:=(Same.new hL).trans s3;have tS:=pB.trans (Same.new (o:=.dT (a6 (eH p aK))) qx);have fO:∀{c:Addr},H2 c=none->hd≠c:=fun e z=>by subst z;rw[cx] at e;cases e
   have ne_hs:∀{c:Addr},H2 c=none->∀h∈hs,h.1≠c:=fun e h hh z=>by subst z;rw[(T h hh).1] at e;cases e
   refine⟨fun m σ H4=>∃(ah:Ch)(c:Addr)(v5 v6 v7 O:Option V),σ=[some (.ref l),some (.int p),some (.ref hd),some (.ref d),some (.ref c),v5,v6,v7,O]/\Same H2 H4/\H2 c=none/\H4 c=some (.dT (a6 ah))/\fw p U N (dE hs) aK ah m,
    ⟨U.length,eH p aK,c0,_,_,_,_,rfl,tS,pB.free qx,za,Mw dG eJ ln (inU aK eJ)⟩,?_⟩
   rintro m σ H4 ⟨ah,c,v5,v6,v7,O,rfl,s4,hc,m_,HR⟩;have jv:=HR.ok;have lh:ah.length<=500:=AD (E5 lu jv fun q hq=>by obtain⟨u,_,e⟩:=HR.u q hq;exact Al e) ω;refine⟨_,rfl,fun z hz=>⟨c,z,_,rfl,rfl,y3 (Same.new hz _ _ m_) za,_,rfl,?_⟩⟩;have sz:=Same.new (o:=.dT []) hz
   by_cases G:ah=[]
   ·rw[decide_eq_true G]
    refine aW ?_;refine aW ?_;have s5:=s4.trans sz;refine⟨_,rfl,fun z2 hV=>⟨c,z2,_,rfl,rfl,y3 (Same.new hV _ _ (sz _ _ m_)) za,_,rfl,?_⟩⟩;rw[decide_eq_true G];have S:=s5.trans (Same.new (o:=.dT []) hV);refine aW ⟨hs,_,_,_,_,_,_,rfl,sm.trans S,S _ _ cx,fun h hh=>⟨S _ _ (T h hh).1,(T h hh).2⟩,ω,HD,fun cs hcs=>?_⟩;rw[AF er] at hcs;rcases List.mem_append.mp hcs with hcs|hcs
    ·exact done cs hcs
    ·obtain rfl:=List.mem_singleton.mp hcs
     subst G;exact Mz HR
   rw[decide_eq_false G];have qv:=sz _ _ m_;refine bb ⟨_,rfl,c,a6 ah,rfl,.inl qv,fun pz pQ L1 fU=>⟨L1,pz,ksC ah,rfl,SqL.of za,(Same.new fU).tps (iB pQ),fun z=>G (List.map_eq_nil_iff.mp z),fun j1 a0 y wA rL eY=>?_⟩⟩;obtain⟨dW,ty⟩:=y0 fU pQ wA rL eY;refine⟨_,rfl,hd,_,rfl,.inr ⟨gC hs,y.map Sum.inl,a0,.inl (Same.new fU _ _ (sz _ _ (s4 _ _ cx))),rfl,dO dW,rfl⟩,_,rfl,?_⟩;have qf:=Same.new (o:=.lst (pz.map V.ref)) fU;have s5:=s4.trans (sz.trans qf);have eQ:=qf _ _ qv;rw[E8]
   by_cases hy:y∈(dE hs).map (·.1)
   ·rw[decide_eq_true hy]
    refine bb ⟨_,fun aq H' h=>h,?_⟩;refine⟨_,rfl,c,a6 ah,rfl,.inl eQ,fun gg iL L2 bK=>⟨L2,gg,ksC ah,rfl,SqL.of za,(Same.new bK).tps (iB iL),fun z=>G (List.map_eq_nil_iff.mp z),fun j2 a v nK nw fG=>?_⟩⟩;obtain⟨ha,mQ⟩:=y0 bK iL nK nw fG;obtain rfl:=Fb ty mQ;have gi:=Same.new (o:=.lst (gg.map V.ref)) bK;have S:=s5.trans gi;have iy:=gi _ _ eQ;generalize upd _ L2 (.lst (gg.map V.ref))=H6 at gi S iy ha;rw[yZ] at hy;obtain⟨h,hh,ey⟩:=List.mem_map.mp hy;obtain⟨o,v,b⟩:=h;obtain rfl:v=y:=ey;have hb:(v,b)∈dE hs:=List.mem_map.mpr ⟨_,hh,rfl⟩;obtain⟨gM,tb,ub⟩:=HD.ok _ hb;have ho:H6 o=some (.dT (a6 b)):=S _ _ (T _ hh).1;have lb:b.length<=500:=AD (E5 lu gM ub) ω;have wb:1<=ak b v/\ak b v<p:=gM.at tb.1;have wh:=jv.at ty.1;have gO:∀Y,Same H6 Y->DGet Y o (.ref a) (some (.int (ak b v))):=fun Y J=>.inr ⟨a6 b,v.map Sum.inl,a,.inl (J _ _ ho),rfl,dO (J.tp ha),(by
     obtain⟨I,fM,e⟩:=List.mem_map.mp tb.1;have e:I.1=v:=e;rw[<-e,ku gM.nd I fM];exact(kh gM.nd I fM).symm)⟩
    have gH:∀Y,Same H6 Y->DGet Y c (.ref a) (some (.int (ak ah v))):=fun Y J=>.inr ⟨a6 ah,v.map Sum.inl,a,.inl (J _ _ iy),rfl,dO (J.tp ha),(by
     obtain⟨I,fM,e⟩:=List.mem_map.mp ty.1;rw[<-e,ku jv.nd I fM];exact(kh jv.nd I fM).symm)⟩
    refine⟨_,rfl,_,rfl,hd,_,rfl,.inr ⟨gC hs,v.map Sum.inl,a,.inl (S _ _ cx),rfl,dO ha,(E9 HD.nd _ hh).symm⟩,?_⟩;refine⟨_,rfl,1,p,rfl,⟨ω,ω,ω,ω⟩,fun D2 a9=>zF (MD (wt:=ak b v) (g:=ak ah v) ω ⟨ω,ω⟩ dG a9 gO gH fun Y J kF=>?_)⟩;obtain⟨j0,j1,j2⟩:=ME hp wb wh;have hm:j0∈(AB (p-1).toNat).filter fun j:Nat=>decide ((1+(j:Int))*ak b v%p=ak ah v):=List.mem_filter.mpr ⟨List.mem_range.mpr j1,decide_eq_true j2⟩;cases e:(AB (p-1).toNat).filter fun j:Nat=>decide ((1+(j:Int))*ak b v%p=ak ah v) with
    |nil=>rw[e] at hm;cases hm
    |cons j r=>
    have hj:j∈(AB (p-1).toNat).filter fun j:Nat=>decide ((1+(j:Int))*ak b v%p=ak ah v):=by rw[e];exact .head _
    obtain⟨j3,j4⟩:=List.mem_filter.mp hj;have j5:=List.mem_range.mp j3;have j6:(1+(j:Int))*ak b v%p=ak ah v:=of_decide_eq_true j4;rw[e] at kF;refine⟨D2,_,0,.int (1+j),rfl,rfl,SqL.of kF,zy (j:=0) rfl,?_⟩;have iX:=J _ _ iy;have j7:=J _ _ ho;have uK:=S.trans J;refine⟨_,rfl,o,a6 b,rfl,.inl j7,fun kD ua L3 dC=>?_⟩;have mM:=Same.new (o:=.lst (kD.map V.ref)) dC;have dR:=mM.tps (iB ua);have cL:c≠L3:=ze iX dC;have oV:=dR.length;rw[kd] at oV;refine⟨L3,rfl,⟨_,SqL.of za⟩,zC (K:=K) (a:=L3) (xs:=kD.map V.ref) (fun i σ H8=>∃(O:Option V),σ=[some (.ref l),some (.int p),some (.ref hd),some (.ref d),some (.ref c),some (.ref a),some (.ref o),some (.int (1+j)),O]/\Same H2 H8/\H8 L3=some (.lst (kD.map V.ref))/\Tps H8 kD (ksC b)/\H8 c=some (.dT (a6 ((b.take i).foldl (lsK p (1+j)) ah)))/\((b.take i).foldl (lsK p (1+j)) ah).length<=500+i)
     ⟨_,rfl,uK.trans mM,za,dR,mM _ _ iX,by simpa using lh⟩ (fun i σ H8 _ ⟨_,_,_,h,_⟩=>SqL.of h) ?_ ?_⟩
    ·rintro i x σ H8 hx ⟨O,rfl,s8,kR,mK,W,gl⟩
     obtain⟨q0,u_,rfl⟩:=zD hx;obtain⟨ps,aH,aN⟩:=mK.get u_;unfold ksC at aH;rw[Ak] at aH;obtain⟨I,ec,rfl⟩:=Option.map_eq_some_iff.mp aH;have hi':i<b.length:=(List.getElem?_eq_some_iff.mp ec).1;have bN:=Al ec;refine⟨_,rfl,c,rfl,.inr ⟨_,.inl W⟩,_,rfl,_,.inr ⟨_,I.1.map Sum.inl,q0,.inl W,rfl,dO aN,rfl⟩,?_⟩;rw[EB];refine⟨_,rfl,_,rfl,_,rfl,o,.int I.2,rfl,.inr ⟨a6 b,I.1.map Sum.inl,q0,.inl (s8 _ _ (T _ hh).1),rfl,dO aN,(kh gM.nd I bN).symm⟩,_,_,rfl,rfl,.inl ⟨ω,ω⟩,_,_,rfl,rfl,_,rfl,_,_,rfl,rfl,dG,_,rfl,_,rfl,c,_,rfl,DPut.t (k:=I.1.map Sum.inl) W (dO aN) (zM (by rw[Ex];omega)),⟨_,rfl,s8.then hc,?_,Tps.upd mK W (by intro xs z;cases z),?_,?_⟩⟩
     ·rw[ab (Ne.symm cL)];exact kR
     ·rw[za,yz,AF ec,List.foldl_append]
      rfl
     ·rw[AF ec,List.foldl_append]
      show(bF _ I.1 _).length<=_;have:=EA ((b.take i).foldl (lsK p (1+j)) ah) I.1 ((ak ((b.take i).foldl (lsK p (1+j)) ah) I.1-(1+(j:Int))*I.2)%p);omega
    ·rintro σ H8 ⟨O,rfl,s8,kR,mK,W,gl⟩
     rw[Aa,oV,take_all] at W gl;have nX:=sR (p:=p) (k:=1+j) b ah jv.nd;have XF:gB p (1+j) ah b=(b.foldl (lsK p (1+j)) ah).filter dj:=rfl;obtain⟨u,sf,lV⟩:=Mx dG lu HD HR hb ty j6;rw[XF] at lV;generalize b.foldl (lsK p (1+j)) ah=X at W gl nX lV;refine⟨_,rfl,c,a6 X,rfl,.inl W,fun es pe M hM=>⟨M,rfl,⟨_,SqL.of za⟩,fun D3 hD3=>zF (EK za ((Same.new hM).tps (iB pe)) (Same.new hM _ _ W) nX ω hD3 fun H9 ts s9 rY sj=>?_)⟩⟩;refine⟨D3,ts,a6 (X.filter dj),rfl,SqL.of rY,yM sj,fun R hR=>?_⟩;rw[yE,yJ _ (yW nX)];have dm:=(s8.trans (Same.new hM)).trans s9;exact⟨u,sf,X.filter dj,R,_,_,_,_,rfl,dm.trans (Same.new hR),dm.free hR,za,lV⟩
   ·rw[decide_eq_false hy]
    refine aW ?_;refine⟨_,rfl,fun z2 hV=>⟨c,z2,_,rfl,rfl,y3 (Same.new hV _ _ eQ) za,_,rfl,?_⟩⟩;have ph:=Same.new (o:=.dT []) hV;rw[decide_eq_false G];have S:=s5.trans ph;have iy:=ph _ _ eQ;refine bb ⟨_,rfl,_,rfl,_,rfl,c,a6 ah,rfl,.inl iy,fun gg iL L2 bK=>⟨L2,gg,ksC ah,rfl,SqL.of za,(Same.new bK).tps (iB iL),fun z=>G (List.map_eq_nil_iff.mp z),fun j2 a v nK nw fG=>?_⟩⟩;obtain⟨ha,mQ⟩:=y0 bK iL nK nw fG;obtain rfl:=Fb ty mQ;have gi:=Same.new (o:=.lst (gg.map V.ref)) bK;have J:=S.trans gi;have iX:=gi _ _ iy;generalize upd _ L2 (.lst (gg.map V.ref))=Y at gi J iX ha;obtain⟨wB,qO⟩:=MA HD HR ty hy;have lH:=J _ _ cx;refine⟨hd,_,rfl,DPut.t (k:=y.map Sum.inl) lH (dO ha) (zM (by unfold gC;rw[Aa];omega)),hs++[(c,y,ah)],_,_,_,_,_,_,rfl,(sm.trans J).then ql,?_,fun h hh=>?_,by rw[Ai];simp;omega,?_,fun cs hcs=>?_⟩
    ·rw[za,MC (cs:=ah) hy]
    ·rcases List.mem_append.mp hh with hh|hh
     ·exact⟨by rw[ab (T h hh).2];exact J _ _ (T h hh).1,(T h hh).2⟩
     ·obtain rfl:=List.mem_singleton.mp hh
      exact⟨by rw[ab (Ne.symm (fO hc))];exact iX,Ne.symm (fO hc)⟩
    ·rw[show dE (hs++[(c,y,ah)])=dE hs++[(y,ah)] by unfold dE;rw[Ah];rfl]
     exact wB
    ·rw[show dE (hs++[(c,y,ah)])=dE hs++[(y,ah)] by unfold dE;rw[Ah];rfl]
     rw[AF er] at hcs;rcases List.mem_append.mp hcs with hcs|hcs
     ·exact yx (done cs hcs)
     ·obtain rfl:=List.mem_singleton.mp hcs
      exact qO
  ·rintro σ H2 ⟨hs,v3,v4,v5,v6,v7,O,rfl,sm,cx,T,uA,HD,done⟩
   rw[Aa,aw,take_all] at done;refine⟨_,rfl,hd,_,rfl,.inl cx,?_⟩;have:=k U ((dE hs).map fun e=>(U.idxOf e.1,ak e.2)) H2 sm (HD.lz dG lu) (fun r hr=>by
    obtain⟨e,he,rfl⟩:=List.mem_map.mp hr;exact HD.sp e he) (fun cs hcs=>by rw[Mv];exact done cs hcs)
   rw[Aa,Aa] at this;unfold gC;rw[Aa];exact this
end
abbrev sq(q:List Int):List Int->Int:=ak (sA [(q,1)])
def lM(q y:List Int):sq q y=tau q y:=by
 show ak (sA [(q,1)]) y=_;rw[Mc,yG];show 1*tau q y+0=_;omega
def Fd{q y:List Int}(h:y∉rims q):tau q y=0:=L' fun t a e=>h (by rw[<-lJ q 1,<-e];exact List.mem_map.mpr ⟨t,a,rfl⟩)
def tau_rim{q y:List Int}(hn:q.Nodup)(h:y∈rims q):tau q y=1\/tau q y=-1:=by
 have a:(ksC (bz q 1)).Nodup:=by rw[lJ];exact EF hn
 rw[<-lJ q 1] at h;obtain⟨c,hc,rfl⟩:=List.mem_map.mp h;unfold tau;rw[Me a,ku a c hc];unfold bz at hc;obtain⟨r,_,rfl⟩:=List.mem_map.mp hc;show sg r.2 1=1\/sg r.2 1=-1;unfold sg;split
 ·exact .inl rfl
 ·exact .inr rfl
section
variable{p:Int}
def cT(p:Int)(B:List (List Int->Int))(n:Nat):Prop:=∃(U:Ξ)(A:List (Nat×(List Int->Int))),Bar.Lz p U A/\(∀r∈A,Bar.bX p B r.2)/\(∀v∈B,Bar.bX p (A.map (·.2)) v)/\A.length=n
def Fe{B C:List (List Int->Int)}{n:Nat}(h:cT p B n)(c:∀v∈B,Bar.bX p C v)(d:∀v∈C,Bar.bX p B v):cT p C n:=by
 obtain⟨U,A,h1,h2,h3,b⟩:=h;exact⟨U,A,h1,fun r hr=>Bar.jf (h2 r hr) c,fun v a=>Bar.jf (d v a) h3,b⟩
def MG{B C:List (List Int->Int)}{n:Nat}(h:cT p B n)(e:∀v,v∈B↔v∈C):cT p C n:=Fe h (fun v a=>Bar.zR ((e v).mp a)) fun v a=>Bar.zR ((e v).mpr a)
def sV(hp:isP p){B:List (List Int->Int)}{n m:Nat}(h:cT p B n)(g:cT p B m):n=m:=by
 obtain⟨k,rfl⟩:=hp.nat;obtain⟨U,A,h1,h2,h3,rfl⟩:=h;obtain⟨a,b,g1,g2,g3,rfl⟩:=g;exact Bar.Mk hp.pr.1 h1 g1 (fun r hr=>Bar.jf (h2 r hr) g3) fun r hr=>Bar.jf (g2 r hr) h3
def Fh{y:List Int}:∀(d:List Int)(B:List (List Int->Int)),(∀v∈B,p ∣ v y)->p ∣ Bar.aV d B y
 |[],[],_=>AE _
 |[],_::_,_=>AE _
 |_::_,[],_=>AE _
 |a::d,v::B,h=>Int.dvd_add (Int.dvd_trans (h v (.head _)) (Int.dvd_mul_left _ _)) (Fh d B fun w hw=>h w (.tail _ hw))
def MH{B:List (List Int->Int)}{f:List Int->Int}(h:Bar.bX p B f){y:List Int}(a:∀v∈B,p ∣ v y):p ∣ f y:=by
 obtain⟨d,_,hd⟩:=h;have:=Int.dvd_add (hd y) (Fh d B a)
 rwa [show f y-Bar.aV d B y+Bar.aV d B y=f y from ω] at this
def MI{B:List (List Int->Int)}(h:∀v∈B,∀y,p ∣ v y):cT p B 0:=⟨[],[],⟨A7,fun r hr=>nomatch hr⟩,(fun r hr=>nomatch hr),(fun v a=>Bar.iD (h v a)),rfl⟩
def MJ{B:List (List Int->Int)}{n:Nat}(h:cT p B n){v:List Int->Int}{y:List Int}(f:∀w∈B,p ∣ w y)(g:¬p ∣ v y):cT p (v::B) (n+1):=by
 obtain⟨U,A,h1,h2,h3,rfl⟩:=h;have lt:∀r∈A,r.1<U.length:=fun r hr=>Nat.lt_of_not_le fun z=>(h1.yg r hr).1 (by rw[Bar.oD z];exact AE _);refine⟨U++[y],A++[(U.length,v)],⟨?_,fun r hr=>?_⟩,fun r hr=>?_,fun w hw=>?_,by rw[Ai];rfl⟩
 ·rw[Ah,AU]
  refine⟨h1.nd,by simp,fun a d b hb e=>?_⟩;obtain⟨r,hr,rfl⟩:=List.mem_map.mp d;have hb:b=U.length:=by simpa using hb
  have:=lt r hr;omega
 ·rcases List.mem_append.mp hr with hr|hr
  ·have c:=h1.yg r hr
   have l:=lt r hr;have eq:∀u,u<U.length->Bar.cat (U++[y]) r.2 u=Bar.cat U r.2 u:=fun u hu=>by
    rw[Bar.hU (x:=U[u]) (by rw[List.getElem?_append_left hu,Ae hu]),Bar.hU (Ae hu)]
   refine⟨by rw[eq _ l];exact c.1,fun u hu=>?_⟩
   by_cases h:u<U.length
   ·rw[eq u h];exact c.2 u hu
   ·by_cases e:u=U.length
    ·subst e
     rw[Bar.hU (x:=y) (by rw[List.getElem?_append_right (Ag _),Nat.sub_self];rfl)];exact MH (h2 r hr) f
    ·rw[Bar.oD (by rw[Ai];simp;omega)];exact AE _
  ·obtain rfl:=List.mem_singleton.mp hr
   refine⟨?_,fun u hu=>?_⟩
   ·show ¬p ∣ Bar.cat (U++[y]) v U.length
    rw[Bar.hU (x:=y) (by rw[List.getElem?_append_right (Ag _),Nat.sub_self];rfl)];exact g
   ·have hu:U.length<u:=hu
    show p ∣ Bar.cat (U++[y]) v u;rw[Bar.oD (by rw[Ai];simp;omega)];exact AE _
 ·rcases List.mem_append.mp hr with hr|hr
  ·exact Bar.jf (h2 r hr) fun w hw=>Bar.zR (.tail _ hw)
  ·obtain rfl:=List.mem_singleton.mp hr
   exact Bar.zR (.head _)
 ·rw[Ah]
  rcases List.mem_cons.mp hw with rfl|hw
  ·exact Bar.zR (AQ _ (.head _))
  ·exact Bar.jf (h3 w hw) fun u hu=>Bar.zR (List.mem_append_left _ hu)
def Fj{B:List (List Int->Int)}:∀(cs:Ch),(∀c∈cs,sq c.1∈B)->Bar.bX p B (lin cs)
 |[],_=>Bar.iD fun u=>AE _
 |c::cs,h=>by
  have:=Bar.hY (k:=c.2) (Bar.zR (p:=p) (h c (.head _))) (Fj cs fun d hd=>h d (.tail _ hd));refine Bar.fQ (fun u=>?_) this;rw[yG,lM,Int.sub_self];exact AE _
abbrev sz(L:Ξ)(s:Int):Ξ:=L.filter fun q=>decide ((q.length:Int)=s)
abbrev Rk(p:Int)(L:Ξ)(s:Int)(n:Nat):Prop:=cT p ((sz L s).map sq) n
def eM{L:Ξ}{s:Int}{q:List Int}:q∈sz L s↔q∈L/\(q.length:Int)=s:=by
 unfold sz;rw[List.mem_filter,decide_eq_true_eq]
def oI{q r:List Int}(h:r∈rims q):(q.length:Int)=(r.length:Int)+1:=by
 obtain⟨_,k,hk,rfl⟩:=hE.mp h;rw[Ai,Ay,List.length_drop];omega
structure FP(L:Ξ)(z:Pp):Prop where
 a:z.1∈L
 b:z.2∈L
 r:z.1∈rims z.2
 u:∀q∈L,z.1∈rims q->q=z.2
 cl:∀r∈rims z.2,r∈L
 nd:z.2.Nodup
 l5:z.2.length<=5
def Fl{L:Ξ}(c:Cl L){z:Pp}(h:z∈fr L):FP L z:=by
 have hw:=c.hw;have hz:z∈dL (ovS (canon L)) (canon L):=by rw[c.can];exact h
 obtain⟨h1,h2⟩:=yi hw hz;have hc:∀q,q∈L/\z.1∈rims q↔q=z.2:=fun q=>by
  rw[<-c.can,<-j8,h2,A3]
 obtain⟨h3,b⟩:=(hc z.2).mpr rfl;have a:z.2∈canon L:=by rw[c.can];exact h3
 refine⟨by rw[<-c.can];exact h1,h3,b,fun q hq hr=>(hc q).mp ⟨hq,hr⟩,fun r hr=>?_,(hH hw a).1,(hH hw a).2.2⟩;have:=DW hw a hr
 rwa [c.can] at this
def lQ{L:Ξ}{z:Pp}{x:List Int}:x∈rem L z↔x∈L/\x≠z.1/\x≠z.2:=by
 unfold rem;rw[List.mem_filter];simp
def Fm(hp:isP p){L:Ξ}{z:Pp}(f:FP L z){s:Int}{n:Nat}(h:Rk p (rem L z) s n):Rk p L s (n+if s=(z.2.length:Int) then 1 else 0):=by
 have hl:=oI f.r
 by_cases h2:s=(z.2.length:Int)
 ·rw[if_pos h2]
  have m:=MJ (v:=sq z.2) (y:=z.1) h (fun w hw=>?_) (fun q=>?_)
  ·refine MG m fun v=>?_
   rw[List.mem_cons,List.mem_map,List.mem_map];constructor
   ·rintro(rfl|⟨q,hq,rfl⟩)
    ·exact⟨z.2,eM.mpr ⟨f.b,h2.symm⟩,rfl⟩
    ·obtain⟨g,i⟩:=eM.mp hq
     exact⟨q,eM.mpr ⟨(lQ.mp g).1,i⟩,rfl⟩
   ·rintro⟨q,hq,rfl⟩
    obtain⟨g,i⟩:=eM.mp hq
    by_cases e:q=z.2
    ·subst e;exact .inl rfl
    ·exact .inr ⟨q,eM.mpr ⟨lQ.mpr ⟨g,fun e1=>by rw[e1] at i;omega,e⟩,i⟩,rfl⟩
  ·obtain⟨q,hq,rfl⟩:=List.mem_map.mp hw
   obtain⟨g,_⟩:=eM.mp hq;obtain⟨D,_,E⟩:=lQ.mp g;rw[lM,Fd fun hr=>E (f.u q D hr)];exact AE _
  ·rw[lM] at q
   have two:=hp.pr.1.two;rcases tau_rim f.nd f.r with e|e
   ·rw[e] at q
    have:=Int.le_of_dvd ξ q;omega
   ·rw[e] at q
    have:=Int.le_of_dvd ξ (Int.dvd_neg.mp q);omega
 rw[if_neg h2,Nat.add_zero];refine Fe h (fun v o=>?_) fun v o=>?_
 ·obtain⟨q,hq,rfl⟩:=List.mem_map.mp o
  obtain⟨g,i⟩:=eM.mp hq;exact Bar.zR (List.mem_map.mpr ⟨q,eM.mpr ⟨(lQ.mp g).1,i⟩,rfl⟩)
 ·obtain⟨q,hq,rfl⟩:=List.mem_map.mp o
  obtain⟨g,i⟩:=eM.mp hq
  by_cases e:q=z.1
  ·subst e
   have l:(ksC (bz z.2 1)).Nodup:=by rw[lJ];exact EF f.nd
   have hm:=f.r;rw[<-lJ z.2 1] at hm;obtain⟨c,hc,j⟩:=List.mem_map.mp hm;have j:c.1=z.1:=j;obtain⟨a,b,x⟩:=List.append_of_mem hc;have A:=fun y=>Md y z.2 f.l5;rw[x] at l A;have key:ksC (a++c::b)=ksC a++c.1::ksC b:=by unfold ksC;rw[Ah,Av]
   rw[key,AU,List.nodup_cons] at l;have sp:Bar.bX p ((sz (rem L z) s).map sq) (lin (a++b)):=Fj _ fun d hd=>by
    have G:d∈bz z.2 1:=by
     rw[x];rcases List.mem_append.mp hd with hd|hd
     ·exact List.mem_append_left _ hd
     ·exact AQ _ (.tail _ hd)
    have C:d.1∈rims z.2:=by rw[<-lJ z.2 1];exact List.mem_map.mpr ⟨d,G,rfl⟩
    have H:d.1≠z.1:=fun e=>by
     rw[<-j] at e;rcases List.mem_append.mp hd with hd|hd
     ·exact l.2.2 d.1 (List.mem_map.mpr ⟨d,hd,rfl⟩) c.1 (.head _) e
     ·exact l.2.1.1 (e▸List.mem_map.mpr ⟨d,hd,rfl⟩)
    have I:=oI C;refine List.mem_map.mpr ⟨d.1,eM.mpr ⟨lQ.mpr ⟨f.cl _ C,H,fun e=>by rw[e] at I;omega⟩,ω⟩,rfl⟩
   have F:c.2=1\/c.2=-1:=by
    have:c∈bz z.2 1:=hc;unfold bz at this;obtain⟨r,_,rfl⟩:=List.mem_map.mp this;show sg r.2 1=1\/sg r.2 1=-1;unfold sg;split
    ·exact .inl rfl
    ·exact .inr rfl
   refine Bar.fQ (fun y=>?_) (Bar.hY (k:=-c.2) sp (Bar.iD (f:=fun _=>0) fun _=>AE _));have:=A y;rw[EH,yG,j] at this;rw[lM,EH];rcases F with e|e
   ·rw[e] at this ⊢
    rw[show tau z.1 y-(-1*(lin a y+lin b y)+0)=0 from ω];exact AE _
   ·rw[e] at this ⊢
    rw[show tau z.1 y-(- -1*(lin a y+lin b y)+0)=0 from ω];exact AE _
  ·exact Bar.zR (List.mem_map.mpr ⟨q,eM.mpr ⟨lQ.mpr ⟨g,e,fun e=>h2 (by rw[<-i,e])⟩,i⟩,rfl⟩)
def Fq{L:Ξ}(hn:L.Nodup){a:List Int}(b:a∈L)(P:List Int->Bool):(L.filter P).length=((L.filter fun x=>!decide (x=a)).filter P).length+if P a=true then 1 else 0:=by
 have e:(L.filter fun x=>!decide (x=a))=L.erase a:=by
  rw[hn.erase_eq_filter];refine List.filter_congr fun x _=>?_
  by_cases h:x=a
  ·subst h;simp
  ·rw[decide_eq_false h];simpa using h
 rw[e];have:=((List.perm_cons_erase b).filter P).length_eq;rw[this,List.filter_cons];split
 ·rw[An]
 ·rfl
def Fs{L:Ξ}(z:Pp):rem L z=(L.filter fun x=>!decide (x=z.1)).filter fun x=>!decide (x=z.2):=by
 unfold rem;rw[List.filter_filter];refine List.filter_congr fun x _=>?_
 by_cases h1:x=z.1
 ·by_cases h2:x=z.2
  ·rw[decide_eq_true (Or.inl h1),decide_eq_true h1,decide_eq_true h2];rfl
  ·rw[decide_eq_true (Or.inl h1),decide_eq_true h1,decide_eq_false h2];rfl
 ·by_cases h2:x=z.2
  ·rw[decide_eq_true (Or.inr h2),decide_eq_false h1,decide_eq_true h2];rfl
  ·rw[decide_eq_false (fun q=>q.elim h1 h2),decide_eq_false h1,decide_eq_false h2];rfl
def MK{L:Ξ}(hn:L.Nodup){z:Pp}(f:FP L z)(s:Int):(sz L s).length=(sz (rem L z) s).length+(if s=(z.1.length:Int) then 1 else 0)+if s=(z.2.length:Int) then 1 else 0:=by
 have hl:=oI f.r;have ne:z.2≠z.1:=fun e=>by rw[e] at hl;omega
 have d:z.2∈L.filter fun x=>!decide (x=z.1):=List.mem_filter.mpr ⟨f.b,by rw[decide_eq_false ne];rfl⟩;have e1:=Fq hn f.a fun q=>decide ((q.length:Int)=s);have e2:=Fq (hn.sublist List.filter_sublist) d fun q=>decide ((q.length:Int)=s);rw[<-Fs] at e2;unfold sz;rw[e1,e2];have c:∀q:List Int,(if decide ((q.length:Int)=s)=true then 1 else 0:Nat)=if s=(q.length:Int) then 1 else 0:=fun q=>by
  by_cases h:(q.length:Int)=s
  ·rw[decide_eq_true h,if_pos rfl,if_pos h.symm]
  ·rw[decide_eq_false h,if_neg ξ,if_neg (Ne.symm h)]
 rw[c,c];omega
def Fu{L:Ξ}(c:Cl L):L.Nodup:=by rw[<-c.can];exact zZ L
def y6(hp:isP p):∀{zs:List Pp}{L M:Ξ},Cl L->run L zs=some M->∀{s:Int}{n m:Nat},Rk p M s n->Rk p M (s+1) m->
  ∃a b,Rk p L s a/\Rk p L (s+1) b/\((sz L s).length:Int)-a-b=((sz M s).length:Int)-n-m
 |[],L,M,c,h,s,n,m,h1,h2=>by cases h;exact⟨n,m,h1,h2,rfl⟩
 |z::zs,L,M,c,h,s,n,m,h1,h2=>by
  unfold run at h
  by_cases hz:z∈fr L
  ·rw[if_pos hz] at h
   have f:=Fl c hz;obtain⟨a,b,g,i,e⟩:=y6 hp (c.rem hz) h h1 h2;refine⟨_,_,Fm hp f g,Fm hp f i,?_⟩;rw[<-e,MK (Fu c) f s];have hl:=oI f.r
   by_cases d:s=(z.1.length:Int)
   ·rw[if_pos d,if_neg ω,if_pos ω];omega
   ·rw[if_neg d,if_neg (show ¬s+1=(z.2.length:Int) from ω)]
    split<;>omega
  ·rw[if_neg hz] at h;cases h
def Fv:∀{zs:List Pp}{L M:Ξ},Cl L->run L zs=some M->fP L=fP M
 |[],L,M,c,h=>by cases h;rfl
 |z::zs,L,M,c,h=>by
  unfold run at h
  by_cases hz:z∈fr L
  ·rw[if_pos hz] at h
   have f:=Fl c hz;have hl:=oI f.r;rw[<-Fv (c.rem hz) h];have ne:z.2≠z.1:=fun e=>by rw[e] at hl;omega
   have d:∀{l:Ξ}{a:List Int},l.Nodup->a∈l->fP l=K1.sg a+fP (l.filter fun x=>!decide (x=a)):=fun{l a} hn g=>by
    have e:(l.filter fun x=>!decide (x=a))=l.erase a:=by
     rw[hn.erase_eq_filter];refine List.filter_congr fun x _=>?_
     by_cases h:x=a
     ·subst h;simp
     ·rw[decide_eq_false h];simpa using h
    rw[e,<-i'];exact KH (List.perm_cons_erase g)
   have n:=Fu c;rw[d n f.a,d (n.sublist List.filter_sublist) (List.mem_filter.mpr ⟨f.b,by rw[decide_eq_false ne];rfl⟩),<-Fs];have:K1.sg z.1+K1.sg z.2=0:=by
    unfold K1.sg;omega
   omega
  ·rw[if_neg hz] at h;cases h
end
def dt(x:Int):List Int->Int:=fun y=>if [x]=y then 1 else 0
def ML(x:Int):dt x [x]=1:=if_pos rfl
def y7{x y:Int}(h:x≠y):dt x [y]=0:=if_neg fun e=>h (by injection e)
def Fx(x y:Int):sq [x,y]=fun w=>dt y w-dt x w:=funext fun w=>by
 rw[lM];show(if [y]=w then(1:Int) else 0)+((if [x]=w then(-1:Int) else 0)+0)=(if [y]=w then 1 else 0)-(if [x]=w then 1 else 0);split<;>split<;>rfl
section
variable{p:Int}
def Fy(l:List Int)(k:Int):(fs (l++[k])).length=(fs l).length+if k∈l then 0 else 1:=by
 rw[rx];unfold da
 by_cases h:k∈l
 ·rw[if_pos ((ry l k).mpr h),if_pos h];rfl
 ·rw[if_neg (fun z=>h ((ry l k).mp z)),if_neg h,Ai];rfl
structure Tree(p:Int)(nm:Int->Int)(l:List Int)(A:List (Nat×(List Int->Int))):Prop where
 n:A.length+(fs (l.map nm)).length=l.length
 nd:(A.map (·.1)).Nodup
 v:∀r∈A,∃x y,l[r.1]?=some x/\y∈l.take r.1/\nm y=nm x/\r.2=fun w=>dt x w-dt y w
 sp:∀x∈l,∀y∈l,nm x=nm y->Bar.bX p (A.map (·.2)) fun w=>dt y w-dt x w
def tree(nm:Int->Int)(l:List Int):∃A,Tree p nm l A:=by
 induction l using snocInd with
 |nil=>exact⟨[],rfl,A7,(fun r hr=>nomatch hr),fun x hx=>nomatch hx⟩
 |append_singleton l k ih=>
  obtain⟨A,h1,h2,h3,h⟩:=ih;have lt:∀r∈A,r.1<l.length:=fun r hr=>by
   obtain⟨x,_,e,_⟩:=h3 r hr;exact(List.getElem?_eq_some_iff.mp e).1
  have zero:∀(B:List (List Int->Int))(x:Int),Bar.bX p B fun w=>dt x w-dt x w:=fun B x=>Bar.iD fun w=>by
   show p ∣ dt x w-dt x w;rw[Int.sub_self];exact AE _
  have i:∀(r:Nat×(List Int->Int)),r∈A->∃x y,(l++[k])[r.1]?=some x/\y∈(l++[k]).take r.1/\nm y=nm x/\r.2=fun w=>dt x w-dt y w:=fun r hr=>by
   obtain⟨x,y,e1,e2,e3⟩:=h3 r hr;have:=lt r hr;exact⟨x,y,by rw[List.getElem?_append_left this];exact e1,by rw[List.take_append_of_le_length ω];exact e2,e3⟩
  rw[show l.map nm=l.map nm from rfl] at h1
  by_cases hk:nm k∈l.map nm
  ·obtain⟨u,hu,f⟩:=List.mem_map.mp hk
   refine⟨A++[(l.length,fun w=>dt k w-dt u w)],?_,?_,fun r hr=>?_,?_⟩
   ·rw[Ah,List.map_singleton,Fy,if_pos hk,Ai,Ai,List.length_singleton,List.length_singleton];omega
   ·rw[Ah,AU]
    refine⟨h2,by simp,fun a j b hb e=>?_⟩;obtain⟨r,hr,rfl⟩:=List.mem_map.mp j;have hb:b=l.length:=by simpa using hb
    have:=lt r hr;omega
   ·rcases List.mem_append.mp hr with hr|hr
    ·exact i r hr
    ·obtain rfl:=List.mem_singleton.mp hr
     refine⟨k,u,by rw[List.getElem?_append_right (Ag _),Nat.sub_self];rfl,?_,f,rfl⟩;show u∈(l++[k]).take l.length;rw[List.take_left];exact hu
   ·have g:∀x∈l,∀y∈l,nm x=nm y->Bar.bX p ((A++[(l.length,fun w=>dt k w-dt u w)]).map (·.2)) fun w=>dt y w-dt x w:=fun x hx y hy e=>Bar.jf (h x hx y hy e) fun v o=>Bar.zR (by rw[Ah];exact List.mem_append_left _ o)
    have new:Bar.bX p ((A++[(l.length,fun w=>dt k w-dt u w)]).map (·.2)) fun w=>dt k w-dt u w:=Bar.zR (by rw[Ah];exact AQ _ (.head _));intro x d y c e;rcases List.mem_append.mp d with hx|hx
    ·rcases List.mem_append.mp c with hy|hy
     ·exact g x hx y hy e
     ·obtain rfl:=List.mem_singleton.mp hy
      refine Bar.fQ (fun w=>?_) (Bar.hY (k:=1) new (g x hx u hu (e.trans f.symm)));show p ∣ dt y w-dt x w-(1*(dt y w-dt u w)+(dt u w-dt x w));rw[show dt y w-dt x w-(1*(dt y w-dt u w)+(dt u w-dt x w))=0 from ω];exact AE _
    ·obtain rfl:=List.mem_singleton.mp hx
     rcases List.mem_append.mp c with hy|hy
     ·refine Bar.fQ (fun w=>?_) (Bar.hY (k:=-1) new (g u hu y hy (f.trans e)))
      show p ∣ dt y w-dt x w-(-1*(dt x w-dt u w)+(dt y w-dt u w));rw[show dt y w-dt x w-(-1*(dt x w-dt u w)+(dt y w-dt u w))=0 from ω];exact AE _
     ·obtain rfl:=List.mem_singleton.mp hy
      exact zero _ _
  ·refine⟨A,?_,h2,i,?_⟩
   ·rw[Ah,List.map_singleton,Fy,if_neg hk,Ai,List.length_singleton];omega
   ·intro x d y c e
    rcases List.mem_append.mp d with hx|hx
    ·rcases List.mem_append.mp c with hy|hy
     ·exact h x hx y hy e
     ·obtain rfl:=List.mem_singleton.mp hy
      exact absurd (List.mem_map.mpr ⟨x,hx,e⟩) hk
    ·obtain rfl:=List.mem_singleton.mp hx
     rcases List.mem_append.mp c with hy|hy
     ·exact absurd (List.mem_map.mpr ⟨y,hy,e.symm⟩) hk
     ·obtain rfl:=List.mem_singleton.mp hy
      exact zero _ _
abbrev iK(pss:Ξ):Ξ:=shr (kb pss) (zA (canon pss))
def MM(L:Ξ):(zA L).length=(sz L 1).length:=by
 unfold zA sz;rw[Aa]
 congr 1
 refine List.filter_congr fun q _=>decide_eq_decide.mpr ω
def Fz(hp:isP p)(pss:Ξ):∃n,Rk p (canon pss) 2 n/\n+(iK pss).length=(sz (canon pss) 1).length:=by
 obtain⟨A,T⟩:=tree (p:=p) (kb pss) (zA (canon pss));have two:=hp.pr.1.two;have d:(zA (canon pss)).Nodup:=(DQ pss).imp Int.ne_of_lt;refine⟨A.length,⟨(zA (canon pss)).map fun x=>[x],A,⟨T.nd,fun r hr=>?_⟩,fun r hr=>?_,fun v i=>?_,rfl⟩,?_⟩
 ·obtain⟨x,y,e1,e2,_,c⟩:=T.v r hr
  obtain⟨j,l,e3⟩:=List.mem_iff_getElem.mp e2;rw[Ay] at l;rw[List.getElem_take] at e3;have g:(zA (canon pss))[j]?=some y:=by rw[Ae ω,e3]
  have U:∀t,((zA (canon pss)).map fun x=>[x])[t]?=(zA (canon pss))[t]?.map fun x=>[x]:=fun t=>Ak;rw[c];refine⟨?_,fun t s=>?_⟩
  ·rw[Bar.hU (x:=[x]) (by rw[U,e1];rfl),ML,y7 (oo d g e1 ω)]
   intro z;have:=Int.le_of_dvd ξ z;omega
  ·cases et:(zA (canon pss))[t]? with
   |none=>rw[Bar.oD (by rw[Aa];simpa using et)];exact AE _
   |some w=>
    rw[Bar.hU (x:=[w]) (by rw[U,et];rfl),y7 (oo d e1 et ω),y7 (oo d g et ω)];exact AE _
 ·obtain⟨x,y,e1,e2,e3,c⟩:=T.v r hr
  rw[c];have o:=KG (fun q=>Bar.bX p ((sz (canon pss) 2).map sq) fun w=>dt q w-dt y w) (bq (canon pss)) (fun e he=>?_) x y e3.symm
  ·refine o.mpr (Bar.iD fun w=>?_)
   show p ∣ dt y w-dt y w;rw[Int.sub_self];exact AE _
  ·have hm:=DN.mp he
   have f:Bar.bX p ((sz (canon pss) 2).map sq) (sq [e.1,e.2]):=Bar.zR (List.mem_map.mpr ⟨_,eM.mpr ⟨hm,rfl⟩,rfl⟩);rw[Fx] at f;constructor
   ·intro h
    refine Bar.fQ (fun w=>?_) (Bar.hY (k:=1) f h);show p ∣ dt e.2 w-dt y w-(1*(dt e.2 w-dt e.1 w)+(dt e.1 w-dt y w));rw[show dt e.2 w-dt y w-(1*(dt e.2 w-dt e.1 w)+(dt e.1 w-dt y w))=0 from ω];exact AE _
   ·intro h
    refine Bar.fQ (fun w=>?_) (Bar.hY (k:=-1) f h);show p ∣ dt e.1 w-dt y w-(-1*(dt e.2 w-dt e.1 w)+(dt e.2 w-dt y w));rw[show dt e.1 w-dt y w-(-1*(dt e.2 w-dt e.1 w)+(dt e.2 w-dt y w))=0 from ω];exact AE _
 ·obtain⟨q,hq,rfl⟩:=List.mem_map.mp i
  obtain⟨b,a⟩:=eM.mp hq
  match q,b,a with
  |[x,y],b,_=>
   rw[Fx];obtain⟨hx,hy⟩:=DP b;exact T.sp x hx y hy (KF _ (x,y) (DN.mpr b))
  |[],_,a=>exact absurd a ξ
  |[_],_,a=>exact absurd a (by simp only[An,List.length_nil];omega)
  |_::_::_::_,_,a=>exact absurd a (by simp only[An];omega)
 ·rw[<-MM,<-T.n]
  unfold iK shr;rw[Aa]
def FA{L:Ξ}:Rk p L 1 0:=MI fun v a y=>by
 obtain⟨q,hq,rfl⟩:=List.mem_map.mp a;have h1:=(eM.mp hq).2;rw[lM,Fd fun hr=>(hE.mp hr).1 ω];exact AE _
def MN{pss a:Ξ}{zs:List Pp}(c:Cl (canon pss))(h:run (canon pss) zs=some (canon a)):(iK a).length=(iK pss).length:=by
 have hp:isP 2:=.inl rfl;obtain⟨n,h1,h2⟩:=Fz hp pss;obtain⟨m,g1,g2⟩:=Fz hp a;obtain⟨f,g,b,d,e⟩:=y6 hp c h (s:=1) (n:=0) FA g1;have e1:=sV hp b FA;have e2:=sV hp d h1;omega
end
end K50
end
section
namespace L2
open PySem PySem.Spec PyProof.Rows
section
variable{X:Cx}{scope:Scope}{av:List (Option Nat)}{tg iter bJ:Expr}{aZ:List Expr}{wi:TI}{g:TG}{tc:TT}{te:TE}{pos:Pos}
def MO{i:Nat}{x:Str}{aX d:Pos}(b:X.N.Nodup)(c:X.N[i]?=some x)(hx:Loc X.env.scope x)(N N':List Str)(av:List (Option Nat))(hi:PI X tg iter wi)(e:∀a C s₀ H₀ ex,PG (cxD X scope N' a C s₀ H₀ ex) tg g)(f:∀a C s₀ H₀ ex,io (cxD X scope N' a C s₀ H₀ ex) aZ tc)(he:∀a C s₀ H₀ ex,PE (cxD X scope N' a C s₀ H₀ ex) bJ te)(hc:X.calm=true:=by rfl)(hk:scope.kind=.function:=by rfl)(h:∀y∈scope.names,y.2=.cell->scope.names.lookup y.1=some .cell:=by decide +kernel)(j:∀y∈scope.names,y.2=.free->scope.names.lookup y.1=some .free:=by decide +kernel)(l:∀y∈scope.names,y.2=.local->scope.names.lookup y.1=some .local:=by decide +kernel)(hfr:∀y∈scope.names,y.2=.free->X.env.kindOf y.1=some .cell\/X.env.kindOf y.1=some .free)(o:X.N=N:=by rfl)(p:iu N N' av scope=true:=by decide +kernel)(hs:∀x,foldedSetIterable iter X.env x=pure x:=by intro _;rfl)(hf:X.fn x=true\/X.env.scope.names.lookup x=some .local:=by first|exact .inl rfl|exact .inr rfl|assumption)(q:swapsWith (.ListComp bJ [⟨tg,iter,aZ,0⟩] scope pos) (some (.Name x aX)) d.line X.env=pure true:=by rfl):PS X (.Assign [.Name x aX] (.ListComp bJ [⟨tg,iter,aZ,0⟩] scope pos) d) (hZ (jz wi av g tc te) (cn i)):=
 Lk hc hk h j l hfr (C0 (by rw[o];exact p)) hi e f he hs b c hx hf q
end
def MP{env env0:Env}{scope a:Scope}(b:env.scope=relabel a env0)(h:scope.names.all (fun y=>decide (y.2≠.free)|| decide (a.names.lookup y.1=some .cell)|| decide (a.names.lookup y.1=some .free))=true):∀y∈scope.names,y.2=.free->env.kindOf y.1=some .cell\/env.kindOf y.1=some .free:=by
 intro y hy e;have:=List.all_eq_true.mp h y hy;simp only[Bool.or_eq_true,decide_eq_true_eq] at this;have key:a.names.lookup y.1=some .free\/a.names.lookup y.1=some .cell:=by
  rcases this with (q|q)|q
  ·exact absurd e q
  ·exact .inr q
  ·exact .inl q
 have:=wg (scope:=a) (env:=env0) key;unfold Env.kindOf;rw[b];rcases this with q|q
 ·exact .inr q
 ·exact .inl q
end L2
end
section
namespace K50
open K1
open PySem L2 STb
abbrev gF:Stmt:=top 44
abbrev y8:Stmt:=top 46
abbrev cX(q:List Int):Ch:=sA [(q,1)]
def MQ{q:List Int}(h:q.length<=5):(cX q).length<=5:=by
 refine AD (L_ _) ?_;have:=yF (cs:=[(q,(1:Int))]) fun c hc=>by rw[List.mem_singleton.mp hc];exact h
 simpa using this
abbrev MR:TE:=pC yN [] E0 (cD (Eu (am 0) (tC (.int 1))) bB)
abbrev FB:TE:=c5 (cD (am 0) (cD MR bB))
abbrev Rows:Type:=List (List Int×Ch)
def RwT(H:Hp)(t:Addr)(c:List Int×Ch):Prop:=∃a d,H t=some (.tup [.ref a,.ref d])/\Tp H a c.1/\H d=some (.dT (a6 c.2))
abbrev Rws(H:Hp)(ts:List Addr)(ag:Rows):Prop:=Paired (RwT H) ts ag
def RwT.same{H H':Hp}{t:Addr}{c:List Int×Ch}(h:RwT H t c)(s:Same H H'):RwT H' t c:=by
 obtain⟨a,d,h1,h2,h3⟩:=h;exact⟨a,d,s _ _ h1,s.tp h2,s _ _ h3⟩
def Rws.same{H H':Hp}{ts:List Addr}{a:Rows}(h:Rws H ts a)(s:Same H H'):Rws H' ts a:=Paired.mapP h fun _ _ q=>q.same s
def Rws.put{H:Hp}{ts:List Addr}{b:Rows}(h:Rws H ts b){L:Addr}{ys zs:List V}(e:H L=some (.lst ys)):Rws (upd H L (.lst zs)) ts b:=Paired.mapP h fun t c ⟨a,d,h1,h2,h3⟩=>
 ⟨a,d,by rw[ab (aF h1 e (by intro z;cases z))];exact h1,by show upd H L _ a=_;rw[ab (aF (show _=some _ from h2) e (by intro z;cases z))];exact h2,by rw[ab (aF h3 e (by intro z;cases z))];exact h3⟩
def Rws.get{H:Hp}{ts:List Addr}{a:Rows}(h:Rws H ts a){i:Nat}{t:Addr}(e:ts[i]?=some t):∃c,a[i]?=some c/\RwT H t c:=by
 have hl:=AZ h;have hi:i<a.length:=by have:=(List.getElem?_eq_some_iff.mp e).1;omega
 exact⟨a[i],Ae hi,iR h i _ _ e (Ae hi)⟩
abbrev Dcs(H:Hp)(ds:List Addr)(ag:List Ch):Prop:=Paired (fun d cs=>H d=some (.dT (a6 cs))) ds ag
def Dcs.same{H H':Hp}{ds:List Addr}{c:List Ch}(h:Dcs H ds c)(s:Same H H'):Dcs H' ds c:=Paired.mapP h fun a b e=>s _ _ e
def Dcs.put{H:Hp}{ds:List Addr}{c:List Ch}(h:Dcs H ds c){L:Addr}{ys zs:List V}(e:H L=some (.lst ys)):Dcs (upd H L (.lst zs)) ds c:=Paired.mapP h fun a b q=>by
 rw[ab (aF q e (by intro z;cases z))];exact q
abbrev dN(ag:Rows)(s:Int):Rows:=ag.filter fun c=>decide ((c.1.length:Int)=s)
def sX{a:Rows}{i:Nat}{c:List Int×Ch}(h:a[i]?=some c)(s:Int):dN (a.take (i+1)) s=dN (a.take i) s++if(c.1.length:Int)=s then [c] else []:=by
 unfold dN;rw[AF h,AK]
 by_cases e:(c.1.length:Int)=s
 ·rw[if_pos e,List.filter_cons_of_pos (by exact decide_eq_true e)];rfl
 ·rw[if_neg e,AT (by simpa using e)];rfl
def FC(s:Int):∀a:Rows,(((dN a s).map (·.2)).flatMap ksC).length<=(a.flatMap fun c=>ksC c.2).length
 |[]=>Ag _
 |c::a=>by
  have b:=FC s a;rw[Bc,Ai]
  by_cases e:(c.1.length:Int)=s
  ·rw[show dN (c::a) s=c::dN a s from List.filter_cons_of_pos (by exact decide_eq_true e),Av,Bc,Ai];omega
  ·rw[show dN (c::a) s=dN a s from AT (by simpa using e)];omega
abbrev oM(K:Af):TT:=gX (cr pu (iO (x_ K) (cD (cr (ga K) (am 0) (tC (.int 0))) bB)) (am 1))
abbrev y9(K:Af):TE:=cr (ga K) (am 0) (tC (.int 1))
abbrev oO(K:Af):TE:=pC (y4 K) [] E0 (cD (jz (Bq K (am 2)) [none,some 0] (cn 0) (oM K) (y9 K)) (cD (am 1) bB))
section
variable{P:Program}{w:World}{K:Af}{mg:Str->Option Value}{base:Heap}{f:Addr}{fd:FuncData}
def MS{H2:Hp}{L D:Addr}{as:List Addr}{kn:Ξ}{Q:VK}(hl:SqL K H2 L (as.map V.ref))(l:Tps H2 as kn)(h5:∀q∈kn,q.length<=5/\q≠[])(hz:kn.length<=500)(p:H2 D=none)(k:∀b ts,Same H2 b->b D=some (.lst (ts.map V.ref))->Rws b ts (kn.map fun q=>(q,cX q))->Q (.ref D) b):cg (dn K L) (cn 0) ce FB [none] H2 D Q:=by
 have z:=l.length;refine zH (xs:=as.map V.ref) (fun j σ ys b=>∃(v:Option V)(ds:List Addr),σ=[v]/\Same H2 b/\b D=some (.lst ys)/\ys=ds.map V.ref/\Rws b ds ((kn.take j).map fun q=>(q,cX q))) ?_ ?_ ?_ ?_
 ·exact⟨none,[],rfl,Same.new p,za,rfl,.nil⟩
 ·rintro j σ ys b ⟨v,ds,rfl,sm,e,rfl,hp⟩
  exact sm.seq hl
 ·rintro j σ ys b x hx w hy ⟨v,ds,rfl,sm,e,rfl,hp⟩
  obtain⟨a,y,rfl⟩:=zD hx;obtain⟨q,eq,hq⟩:=l.get y;have A:=Al eq;refine cR ?_;refine⟨_,rfl,?_⟩;intro g h;have C:=Same.new (o:=.dT []) h;refine⟨_,rfl,a,q.map Sum.inl,.int 1,rfl,za,by rw[Ap];exact C.tp (sm.tp hq),?_⟩;rw[FQ];have E:=Same.new (o:=.dT [((q.map Sum.inl:List Key),V.int 1)]) h;have F:upd b g (.dT [((q.map Sum.inl:List Key),V.int 1)]) g=some (.dT (a6 [(q,1)])):=za;refine⟨g,[(q,1)],rfl,.inl F,by simp[ksC],fun c hc=>by rw[List.mem_singleton.mp hc];exact h5 q A,by simp,fun d H r G s=>?_⟩;refine⟨zf (by simp),fun t u=>?_⟩;have i:=Same.new (o:=.tup [.ref a,.ref d]) u;have f:=(E.trans r).trans i;refine bx (by rw[Aa];exact zf ω) w hy (f _ _ e) ⟨_,ds++[t],rfl,(sm.trans f).then p,za,by rw[Ah];rfl,?_⟩;rw[AF eq,Ah];exact Rws.put (Paired.snoc (hp.same f) ⟨a,d,za,f.tp (sm.tp hq),i _ _ s⟩) (f _ _ e)
 ·rintro σ ys b ⟨v,ds,rfl,sm,e,rfl,hp⟩
  rw[Aa,z,take_all] at hp;exact k b ds sm e hp
def MT{H2:Hp}{L D:Addr}{ts:List Addr}{g:Rows}{s:Int}{Q:VK}(hl:SqL K H2 L (ts.map V.ref))(l:Rws H2 ts g)(hz:g.length<=1000)(o:H2 D=none)(k:∀f ds,Same H2 f->f D=some (.lst (ds.map V.ref))->Dcs f ds ((dN g s).map (·.2))->Q (.ref D) f):cg (dn K L) (cn 0) (oM K) (y9 K) [none,some (.int s)] H2 D Q:=by
 have q:=AZ l;refine zH (xs:=ts.map V.ref) (fun j σ ys f=>∃(v:Option V)(ds:List Addr),σ=[v,some (.int s)]/\Same H2 f/\f D=some (.lst ys)/\ys=ds.map V.ref/\Dcs f ds ((dN (g.take j) s).map (·.2))) ?_ ?_ ?_ ?_
 ·exact⟨none,[],rfl,Same.new o,za,rfl,.nil⟩
 ·rintro j σ ys f ⟨v,ds,rfl,sm,b,rfl,hp⟩
  exact sm.seq hl
 ·rintro j σ ys f x hx h hy ⟨v,ds,rfl,sm,b,rfl,hp⟩
  obtain⟨t,p,rfl⟩:=zD hx;obtain⟨c,i,a,d,h1,h2,h3⟩:=Rws.get l p;have hsz:(ts.map V.ref).length<=sizeLine:=by rw[Aa];exact zf ω
  refine⟨_,rfl,t,_,0,_,rfl,rfl,SqT.of (sm _ _ h1),zy (j:=0) rfl,a,_,rfl,.inr (SqT.of (sm.tp h2)),_,rfl,rfl,_,rfl,?_⟩
  by_cases e:(c.1.length:Int)=s
  ·rw[show decide (V.int ((c.1.map V.int).length:Int)=V.int s)=true from decide_eq_true (by rw[Aa,e])]
   refine bb ⟨_,rfl,t,_,1,_,rfl,rfl,SqT.of (sm _ _ h1),zy (j:=1) rfl,bx hsz h hy b ⟨_,ds++[d],rfl,sm.then o,za,by rw[Ah];rfl,?_⟩⟩;rw[sX i,if_pos e,Ah];exact Dcs.put (Paired.snoc hp (sm _ _ h3)) b
  ·rw[show decide (V.int ((c.1.map V.int).length:Int)=V.int s)=false from decide_eq_false fun z=>e (by rw[Aa] at z;injection z)]
   refine aW (b7 h hy ⟨_,ds,rfl,sm,b,rfl,?_⟩);rw[sX i,if_neg e,AN];exact hp
 ·rintro σ ys f ⟨v,ds,rfl,sm,b,rfl,hp⟩
  rw[Aa,q,take_all] at hp;exact k f ds sm b hp
def MU{H2:Hp}{L D:Addr}{ts:List Addr}{g:Rows}{s:Int}{Q:VK}(hl:SqL K H2 L (ts.map V.ref))(l:Rws H2 ts g)(hz:g.length<=1000)(o:H2 D=none)(k:∀f(vs:List V),Same H2 f->f D=some (.lst vs)->vs.length=(dN g s).length->Q (.ref D) f):cg (dn K L) (cn 0) (oM K) (am 0) [none,some (.int s)] H2 D Q:=by
 have q:=AZ l;refine zH (xs:=ts.map V.ref) (fun j σ ys f=>∃(v:Option V),σ=[v,some (.int s)]/\Same H2 f/\f D=some (.lst ys)/\ys.length=(dN (g.take j) s).length) ?_ ?_ ?_ ?_
 ·exact⟨none,rfl,Same.new o,za,rfl⟩
 ·rintro j σ ys f ⟨v,rfl,sm,b,hp⟩
  exact sm.seq hl
 ·rintro j σ ys f x hx h hy ⟨v,rfl,sm,b,hp⟩
  obtain⟨t,p,rfl⟩:=zD hx;obtain⟨c,i,a,d,h1,h2,h3⟩:=Rws.get l p;have hsz:(ts.map V.ref).length<=sizeLine:=by rw[Aa];exact zf ω
  refine⟨_,rfl,t,_,0,_,rfl,rfl,SqT.of (sm _ _ h1),zy (j:=0) rfl,a,_,rfl,.inr (SqT.of (sm.tp h2)),_,rfl,rfl,_,rfl,?_⟩
  by_cases e:(c.1.length:Int)=s
  ·rw[show decide (V.int ((c.1.map V.int).length:Int)=V.int s)=true from decide_eq_true (by rw[Aa,e])]
   refine bb ⟨_,rfl,bx hsz h hy b ⟨_,rfl,sm.then o,za,?_⟩⟩;rw[sX i,if_pos e,Ai,Ai,hp]
   rfl
  ·rw[show decide (V.int ((c.1.map V.int).length:Int)=V.int s)=false from decide_eq_false fun z=>e (by rw[Aa] at z;injection z)]
   refine aW (b7 h hy ⟨_,rfl,sm,b,?_⟩);rw[sX i,if_neg e,AN];exact hp
 ·rintro σ ys f ⟨v,rfl,sm,b,hp⟩
  rw[Aa,q,take_all] at hp;exact k f ys sm b hp
abbrev ti(p:Int)(ag:Rows)(s:Int)(n:Nat):Prop:=cT p (((dN ag s).map (·.2)).map ak) n
def MV{H2:Hp}{l D:Addr}{ts:List Addr}{d:Rows}{p:Int}{Q:VK}(hl:SqL K H2 l (ts.map V.ref))(E:Rws H2 ts d)(h:∀c∈d,(ksC c.2).Nodup)(F:(d.flatMap fun c=>ksC c.2).length<=500)(hz:d.length<=500)(hp:isP p)(q:H2 D=none)(k:∀b(a:List Nat),Same H2 b->a.length=6->(∀(j n:Nat),a[j]?=some n->ti p d (1+(j:Int)) n)->b D=some (.lst (a.map fun n:Nat=>V.int n))->Q (.ref D) b):cg (eN 1 6) (cn 0) ce (oO K) [none,some (.int p),some (.ref l)] H2 D Q:=by
 refine pU (fun j σ ys b=>∃(v:Option V)(a:List Nat),σ=[v,some (.int p),some (.ref l)]/\Same H2 b/\b D=some (.lst ys)/\ys=a.map (fun n:Nat=>V.int n)/\a.length=j/\∀(j n:Nat),a[j]?=some n->ti p d (1+(j:Int)) n) ?_ ?_ ?_
 ·exact⟨none,[],rfl,Same.new q,za,rfl,rfl,fun j n e=>by simp at e⟩
 ·rintro i σ ys b hi hy ⟨v,a,rfl,sm,f,rfl,hn,hr⟩
  refine cR ?_;refine⟨_,rfl,l,rfl,⟨_,sm.seq hl⟩,fun G r=>zF (MT (sm.seq hl) (E.same sm) ω r fun H ds s u w=>?_)⟩;refine⟨_,rfl,G,ds,_,p,rfl,SqL.of u,w,fun cs hcs=>?_,AD (FC _ d) F,?_,hp,fun U A I x lz y z=>?_⟩
  ·obtain⟨c,hc,rfl⟩:=List.mem_map.mp hcs
   exact h c (List.mem_filter.mp hc).1
  ·rw[Aa]
   exact AD (List.length_filter_le _ _) hz
  have o:=s.trans x;refine bx (zf ω) hi hy (o _ _ f) ⟨_,a++[A.length],rfl,(sm.trans o).then q,za,by rw[Ah];rfl,by rw[Ai,hn];rfl,fun j n e=>?_⟩
  by_cases g:j<a.length
  ·rw[List.getElem?_append_left g] at e
   exact hr j n e
  ·have h1:=(List.getElem?_eq_some_iff.mp e).1
   rw[Ai,List.length_singleton] at h1;have g:j=a.length:=ω
   subst g;rw[List.getElem?_append_right (Ag _),Nat.sub_self] at e;obtain rfl:=Am e;rw[hn];exact⟨U,A,lz,y,fun v C=>by obtain⟨cs,hcs,rfl⟩:=List.mem_map.mp C;exact z cs hcs,rfl⟩
 ·rintro σ ys b ⟨v,a,rfl,sm,f,rfl,hn,hr⟩
  exact k b a sm hn hr f
abbrev nH:List Str:=["rows","prime","ranks","found","size","many"]
def oP:zq nH ["rows","prime"] (zh gF):=⟨rfl,rfl,rfl,δ,rfl,δ,δ⟩
def fy(a:Rows)(g:Nat->Nat):List Int:=(AB 5).map fun j:Nat=>((dN a (1+(j:Int))).length:Int)-g j-g (j+1)
def FE(K:Af):Sp:=fun vs H Q _=>∃(l:Addr)(ts:List Addr)(a:Rows)(p:Int),vs=[.ref l,.int p]/\SqL K H l (ts.map V.ref)/\Rws H ts a/\(∀c∈a,(ksC c.2).Nodup)/\(a.flatMap fun c=>ksC c.2).length<=500/\a.length<=500/\isP p/\
 ∀D H'(g:Nat->Nat),Same H H'->H D=none->(∀j:Nat,j<6->ti p a (1+(j:Int)) (g j))->H' D=some (.lst ((fy a g).map V.int))->Q (.ref D) H'
def MW(F:Fun K "_law_holes" "_law_holes" gF f fd)(B:Bt mg)(Cr:L2.Cl P w K mg base aJ "_law_rank" ["rows","prime"] 1 (y4 K)):FnOk P w K mg base aJ 2 f fd ["rows","prime"] (FE K):=by
 refine F.ok oP (fun vs H Q E h=>?_) (fun cdv A outer s H vs Q E hr h=>?_)
 ·obtain⟨l,ts,r,p,rfl,_⟩:=h;rfl
 ·obtain⟨l,ts,r,p,rfl,hl,O,G,cP,hz,hp,k⟩:=h
  refine⟨_,zd (MO (i:=2) oP.nd rfl (Or.inl rfl) nH ["size","prime","rows"] [none,some 1,some 0] (uB rfl B.range (zb zi (zb zi zc))) (fun b C s₀ H₀ ex=>zk (i:=0) (cF ["size","prime","rows"]) rfl (Or.inr rfl)) (fun b C s₀ H₀ ex=>eX)
    (fun b C s₀ H₀ ex=>dM Cr hr rfl al (zb (zw ["size","prime","rows"] ["row","size"] [none,some 0] (zr (pv 2)) (fun b C s₀ H₀ ex=>zk (i:=0) (cF ["row","size"]) rfl (Or.inl rfl))
     (fun b C s₀ H₀ ex=>g0 (zt gU (zl zj rfl B.len cH (zb (cd eT (pv 0) zi (fun _ _=>rfl)) zc)) (pv 1) (ao _))) (fun b C s₀ H₀ ex=>cd eT (pv 0) zi (fun _ _=>rfl)) (hfr:=MP rfl δ) (tc:=oM K) (te:=y9 K)) (zb (pv 1) zc))) (hfr:=ci (zh gF) δ) (te:=oO K))
   (zd (zp (i:=3) oP.nd rfl (Or.inl rfl) (z0 zc))
   (zd (zK AG rfl (uB rfl B.range (zb zi (zb zi zc))) (zk (i:=4) oP.nd rfl (Or.inr rfl))
    (zd (zp (i:=5) oP.nd rfl (Or.inl rfl) (zl zj rfl B.len cH (zb (zw nH ["row","size"] [none,some 4] (zr (pv 0)) (fun b C s₀ H₀ ex=>zk (i:=0) (cF ["row","size"]) rfl (Or.inl rfl))
     (fun b C s₀ H₀ ex=>g0 (zt gU (zl zj rfl B.len cH (zb (cd eT (pv 0) zi (fun _ _=>rfl)) zc)) (pv 1) (ao _))) (fun b C s₀ H₀ ex=>pv 0) (hfr:=ci (zh gF) δ) (tc:=oM K) (te:=am 0)) zc)))
    (zg (gN (eU PySem.F.plainAttrs_list PySem.F.slot_list_append PySem.F.type_list_append ig (pv 3) (zb (zx jn (zx jn (pv 5) (cd zU (pv 2) (zx jn (pv 4) zi) (fun _ _=>rfl))) (cd zU (pv 2) (pv 4) (fun _ _=>rfl))) zc))))))
   (zg (zu (pv 3))))),?_⟩
  refine⟨1,7,rfl,⟨ξ,ξ,ξ,ξ⟩,fun q W=>zF (MV hl O G cP hz hp W fun H2 a L hn X M=>?_)⟩;refine⟨zf (by simp),fun c v=>?_⟩;have T:=Same.new (o:=.lst []) v;have q8:q≠c:=ze M v;have U:H c=none:=L.free v;have I:∀j,j<6->a[j]?=some (a.getD j 0):=fun j N=>by
   rw[List.getD_eq_getElem?_getD,Ae ω];rfl
  have qM:=L.trans T;refine⟨1,6,rfl,⟨ξ,ξ,ξ,ξ⟩,pk (lo:=1) (n:=(6-1:Int).toNat) (fun i σ d=>∃(y z:Option V),σ=[some (.ref l),some (.int p),some (.ref q),some (.ref c),y,z]/\Same H d/\d q=some (.lst (a.map fun n:Nat=>V.int n))/\d c=some (.lst (((fy r fun j=>a.getD j 0).take i).map V.int)))
   ⟨none,none,rfl,qM,T _ _ M,za⟩ ?_ ?_⟩
  ·rintro i σ d hi ⟨y,z,rfl,sm,S,u⟩
   have hi:i<5:=hi;refine⟨_,rfl,l,rfl,⟨_,sm.seq hl⟩,fun D Y=>zF (MU (sm.seq hl) (O.same sm) ω Y fun H4 vs x aR e=>?_)⟩;refine⟨D,_,rfl,.inl (SqL.of aR),?_⟩;have J:=x _ _ S;have g:=x _ _ u;have a1:ew (a.map fun n:Nat=>V.int n) (1+(i:Int)-1)=some (.int ((a.getD i 0:Nat):Int)):=by
    rw[show 1+(i:Int)-1=(i:Int) from ω];exact zy (by rw[Ak,I i ω];rfl)
   have a2:ew (a.map fun n:Nat=>V.int n) (1+(i:Int))=some (.int ((a.getD (i+1) 0:Nat):Int)):=by
    rw[show 1+(i:Int)=((i+1:Nat):Int) from ω];exact zy (by rw[Ak,I (i+1) ω];rfl)
   have eh:(fy r fun j=>a.getD j 0)[i]?=some (((dN r (1+(i:Int))).length:Int)-((a.getD i 0:Nat):Int)-((a.getD (i+1) 0:Nat):Int)):=by
    unfold fy;rw[Ak,List.getElem?_range hi]
    rfl
   refine⟨_,rfl,.inl ⟨rfl,_,SqL.of g⟩,_,rfl,_,rfl,_,rfl,_,_,rfl,rfl,q,_,_,_,rfl,rfl,SqL.of J,a1,_,_,rfl,rfl,_,rfl,_,rfl,q,_,_,_,rfl,rfl,SqL.of J,a2,_,_,rfl,rfl,c,_,_,rfl,rfl,g,?_,?_⟩
   ·rw[Aa,Ay];exact zM ω
   refine⟨_,_,rfl,(sm.trans x).then U,by rw[ab q8];exact J,?_⟩;rw[za,AF eh,Ah,e]
   rfl
  ·rintro σ d ⟨y,z,rfl,sm,S,u⟩
   rw[Ax (by unfold fy;rw[Aa,List.length_range];decide)] at u;exact⟨_,rfl,k c d (fun j=>a.getD j 0) sm U (fun j N=>X j _ (I j N)) u⟩
def MX:zq ["web","prime"] ["web","prime"] (zh y8):=⟨rfl,rfl,rfl,δ,rfl,δ,δ⟩
def gK(kn:Ξ)(g:Nat->Nat):List Int:=(AB 5).map fun j:Nat=>((sz kn (1+(j:Int))).length:Int)-g j-g (j+1)
def y_(K:Af):Sp:=fun vs H Q _=>∃l as pss p,vs=[.ref l,.int p]/\SqL K H l (as.map V.ref)/\Tps H as pss/\cv pss/\isP p/\
 ∀D H'(g:Nat->Nat),Same H H'->H D=none->(∀j:Nat,j<6->Rk p (canon pss) (1+(j:Int)) (g j))->H' D=some (.lst ((gK (canon pss) g).map V.int))->Q (.ref D) H'
def FF(kn:Ξ)(s:Int):dN (kn.map fun q=>(q,cX q)) s=(sz kn s).map fun q=>(q,cX q):=by
 unfold dN sz;rw[List.filter_map]
 rfl
def MY(F:Fun K "_law_holes_of" "_law_holes_of" y8 f fd)(Y:L2.Cl P w K mg base aJ "_law_seam" ["chain"] 1 yN)(Cp:L2.Cl P w K mg base aJ "_law_pieces" ["web"] 2 (nD K))(Ch:L2.Cl P w K mg base aJ "_law_holes" ["rows","prime"] 2 (FE K)):FnOk P w K mg base aJ 3 f fd ["web","prime"] (y_ K):=by
 refine F.ok MX (fun vs H Q E h=>?_) (fun cdv A outer s H vs Q E hr h=>?_)
 ·obtain⟨l,as,pss,p,rfl,_⟩:=h;rfl
 ·obtain⟨l,as,pss,p,rfl,hl,M,hw,hp,k⟩:=h
  have hu:=gY hr;have e:Room 1 _:=hr.mono ξ;have a:Room 2 _:=hr.mono ξ;obtain⟨N,O,h5,dy⟩:=lm hw.1;have T:(canon pss).length<64:=hw.2;refine⟨_,zg (zu (dM Ch a rfl al (zb (zw ["web","prime"] ["piece"] [none] (zr (dM Cp a rfl al (zb (pv 0) zc))) (fun o C s₀ H₀ ex=>zk (i:=0) (cF ["piece"]) rfl (Or.inl rfl)) (fun o C s₀ H₀ ex=>eX)
   (fun o C s₀ H₀ ex=>ei (zb (pv 0) (zb (dM Y e rfl al (zb (LO hu (pv 0) zi) zc)) zc))) (hfr:=c_ δ) (te:=FB)) (zb (pv 1) zc)))),?_⟩
  refine⟨_,rfl,l,as,pss,rfl,hl,M,h5,N,by rw[<-zY];exact T,fun W H1 qs t=>?_⟩;obtain⟨ks,u,wR,v,S⟩:=Dl t;have b:∀q∈canon pss,q.length<=5/\q≠[]:=fun q hq=>by
   have:=hH (fun p hp=>iv hw.1 hp) hq;exact⟨this.2.2,this.2.1⟩
  refine⟨W,rfl,⟨_,SqL.of v⟩,fun R hR=>zF (MS (SqL.of v) S b ω hR fun H2 ts r x z=>?_)⟩;refine⟨_,rfl,R,ts,_,p,rfl,SqL.of x,z,fun c hc=>?_,?_,?_,hp,fun D X g G I J d=>?_⟩
  ·obtain⟨q,hq,rfl⟩:=List.mem_map.mp hc
   exact L9 _
  ·have U:∀l:Ξ,(∀q∈l,q.length<=5)->((l.map fun q=>(q,cX q)).flatMap fun c=>ksC c.2).length<=5*l.length:=fun l=>by
    induction l with
    |nil=>intro _;exact Ag _
    |cons q l ih=>
     intro h;have h1:=ih fun y hy=>h y (.tail _ hy);have h2:=MQ (h q (.head _));have h2:(q,cX q).2.length<=5:=h2;rw[Av,Bc,Ai,kd,An];omega
   have:=U (canon pss) fun q hq=>(b q hq).1;omega
  ·rw[Aa];omega
  have s:=(u.trans r).trans G;refine k D X g s ((u.trans r).free I) (fun j L=>?_) ?_
  ·have:=J j L
   unfold ti at this;rw[FF,Ap,Ap] at this;exact this
  ·rw[d]
   unfold fy gK
   congr 3
   refine AJ fun j _=>?_;rw[FF,Aa]
end
end K50
end
section
namespace L2
open PySem PySem.Spec PyProof.Rows
section
variable{X:Cx}
def y'(K:Af):R2:=fun x y H Q=>∃l m a b,x=.ref l/\y=.ref m/\SqL K H l (List.map V.int a)/\SqL K H m (List.map V.int b)/\Q (.bl (!decide (a=b))) H
def MZ(hu:X.A.units+64<cLine):cb X (compareOp .NotEq) (y' X.K):=by
 intro aa s σ H x y v u Q I c d h;obtain⟨l,m,a,b,rfl,rfl,hl,hm,q⟩:=h;cases c;cases d;obtain⟨_,f⟩:=Ea I hl;obtain⟨_,g⟩:=Ea I hm;refine ne_dataH_same f g (Eb _) (Eb _) hu (SeqAt.noMix_of_shape (.list .int) rfl _ _ (Ec _) (Ec _)) ?_;have e:same (.list (a.map AV)) (.list (b.map AV))=decide (a=b):=by simp only[same];exact PySem.W.ke_sameAll a b
 rw[e];exact⟨.bl _,H,I,rfl,q⟩
end
end L2
end
section
namespace K50
open K1
open PySem L2 STb
abbrev fz:Stmt:=top 47
abbrev FG:List Str:=["script","box","web","some","free","other","prime"]
def kE:zq FG ["script"] (zh fz):=⟨rfl,rfl,rfl,δ,rfl,δ,δ⟩
def tj(K:Af):Sp:=fun vs H Q _=>∃(a:Addr)(b:List Int),vs=[.ref a]/\SqL K H a (b.map V.int)/\b.length<=63/\∀H',Q (.bl true) H'
def M0{pss M:Ξ}{zs:List Pp}(d:Drawn pss)(hr:run (canon pss) zs=some M):cv (tops M)/\canon (tops M)=M:=by
 obtain⟨hw,_,_⟩:=qZ d;have b:=xZ d;rw[<-zY] at b;obtain⟨c,sub⟩:=rE (Cl.of hw) hr;have hl:=sub.length_le;have a:canon (tops M)=M:=by
  have:=KM c.pc;rw[c.can] at this;exact this
 have e:=j_ d hr;exact⟨⟨De ω ((sub.nodup (zZ pss)).filter _) (fun p hp=>c.pc p (List.mem_filter.mp hp).1) (by rw[<-zY,a];omega),by rw[a];omega⟩,a⟩
def M3{p:Int}(hp:isP p){pss d:Ξ}{zs:List Pp}(c:Cl (canon pss))(h:run (canon pss) zs=some (canon d)){g g':Nat->Nat}(i:∀j:Nat,j<6->Rk p (canon d) (1+(j:Int)) (g j))(l:∀j:Nat,j<6->Rk p (canon pss) (1+(j:Int)) (g' j)):gK (canon d) g=gK (canon pss) g':=by
 unfold gK;refine AJ fun j f=>?_;have f:=List.mem_range.mp f;have e:(1+((j+1:Nat):Int))=1+(j:Int)+1:=ω
 have a:=i (j+1) ω;have b:=l (j+1) ω;rw[e] at a b;obtain⟨s,u,o,r,q⟩:=y6 hp c h (i j ω) a;rw[sV hp o (l j ω),sV hp r b] at q;exact q.symm
def Oth(pss:Ξ)(H:Hp)(o:Addr)(M:Ξ):Prop:=(∃bs:List Addr,H o=some (.lst (bs.map V.ref))/\Tps H bs (tops M))/\∃zs,run (canon pss) zs=some M
def Oth.same{pss:Ξ}{H H':Hp}{o:Addr}{M:Ξ}(h:Oth pss H o M)(s:Same H H'):Oth pss H' o M:=by
 obtain⟨⟨bs,h1,h2⟩,h3⟩:=h;exact⟨⟨bs,s _ _ h1,s.tps h2⟩,h3⟩
section
variable{P:Program}{w:World}{K:Af}{mg:Str->Option Value}{base:Heap}{f:Addr}{fd:FuncData}{cdv:Value}{A:Around}{outer:List Env}{s:Shared}{H:Hp}{E:XK}{Q:VK}
def M4(hr:Room 10 (A.deeper (PyProof.Rows.envOfC "law" (zh fz) s⁻¹ f cdv)))(B:Bt mg)(Cb:L2.Cl P w K mg base aJ "balance" ["web"] 10 (yq K))(Cs:L2.Cl P w K mg base aJ "shares" ["web"] 9 (yu K))(Ch:L2.Cl P w K mg base aJ "_law_holes_of" ["web","prime"] 3 (y_ K)):∃tr,PSs (dI aJ P w K mg base FG "law" (zh fz) f cdv A outer s H E).nox (List.drop 5 (zaW fz)) tr/\
   ∀(a p O e:Addr)(os l:List Addr)(pss:Ξ)(Ms:List Ξ)(q:Option V)(H2:Hp),H2 O=some (.lst (os.map V.ref))->Tps H2 os pss->Drawn pss->H2 e=some (.lst (l.map V.ref))->Paired (Oth pss H2) l Ms->(∀H',Q (.bl true) H')->
    tr {nx:=fun _ H'=>Q .non H',rt:=Q} [some (.ref a),some (.ref p),some (.ref O),some (.ref e),q,none,none] H2:=by
 have aD:=hr.units;have kg:Room 3 _:=hr.mono ξ;have jw:Room 9 _:=hr.mono ξ;refine⟨_,zd (zK AG rfl (zr (pv 3)) (zk (i:=5) kE.nd rfl (Or.inl rfl))
   (zd (cY (PW.pt (Bj (zt kI (dM Cb hr rfl al (zb (zm zO rfl B.list du (zb (pv 5) zc)) zc)) (dM Cb hr rfl al (zb (zm zO rfl B.list du (zb (pv 2) zc)) zc)) (ao _))
     (Bi (zt kI (zl zj rfl B.len cH (zb (dM Cs jw rfl al (zb (zm zO rfl B.list du (zb (pv 5) zc)) zc)) zc)) (zl zj rfl B.len cH (zb (dM Cs jw rfl al (zb (zm zO rfl B.list du (zb (pv 2) zc)) zc)) zc)) (ao _))))) (zg (zu fA)) zE)
   (zg (zK AG rfl (zr (z0 (zb zi (zb zi zc)))) (zk (i:=6) kE.nd rfl (Or.inl rfl))
    (zg (cY (zt (MZ aD) (dM Ch kg rfl al (zb (pv 5) (zb (pv 6) zc))) (dM Ch kg rfl al (zb (pv 2) (zb (pv 6) zc))) (ao _)) (zg (zu fA)) zE))))))
  (zg (zu fA)),?_⟩
 intro a p O e os l pss Ms q H2 hO ho d Y oN k;obtain⟨hw,hnd,oF⟩:=qZ d;have lX:=xZ d;have G:cv pss:=⟨hw,by rw[zY];omega⟩;have c:Cl (canon pss):=Cl.of hw;refine⟨_,rfl,e,rfl,⟨_,SqL.of Y⟩,zC (K:=K) (a:=e) (xs:=l.map V.ref) (fun i σ h=>∃(y b:Option V),σ=[some (.ref a),some (.ref p),some (.ref O),some (.ref e),q,y,b]/\Same H2 h)
  ⟨none,none,rfl,Same.refl _⟩ (fun i σ h _ ⟨_,_,_,sm⟩=>SqL.of (sm _ _ Y)) ?_ ?_⟩
 ·rintro i x σ h hx ⟨y,b,rfl,sm⟩
  obtain⟨o,eo,rfl⟩:=zD hx;have hi:i<Ms.length:=by have:=(List.getElem?_eq_some_iff.mp eo).1;rw[<-AZ oN];exact this
  obtain⟨⟨bs,z,r⟩,zs,C⟩:=(iR oN i _ _ eo (Ae hi)).same sm;generalize Ms[i]=M at r C;obtain⟨D,vH⟩:=M0 d C;have I:=sm _ _ hO;have J:=sm.tps ho;have L:run (canon pss) zs=some (canon (tops M)):=by rw[vH];exact C
  have eb:fo (c' (canon (tops M)))=fo (c' (canon pss)):=by rw[DU,DU];exact(Fv c L).symm
  have es:=MN c L;refine⟨_,rfl,o,_,rfl,.inl (SqL.of z),fun L1 fU=>?_⟩;have t1:=Same.new (o:=.lst (bs.map V.ref)) fU;refine⟨L1,bs,tops M,rfl,SqL.of za,t1.tps r,D,fun H4 s4=>?_⟩;have N:=t1.trans s4;refine⟨_,rfl,O,_,rfl,.inl (SqL.of (N _ _ I)),fun L2 bK=>?_⟩;have t2:=Same.new (o:=.lst (os.map V.ref)) bK;refine⟨L2,os,pss,rfl,SqL.of za,t2.tps (N.tps J),G,fun H5 s5=>⟨rfl,_,rfl,?_⟩⟩;rw[eb,decide_eq_true rfl];have S:=(N.trans t2).trans s5;refine aW ⟨_,rfl,o,_,rfl,.inl (SqL.of (S _ _ z)),fun L3 dC=>?_⟩;have t3:=Same.new (o:=.lst (bs.map V.ref)) dC;refine⟨L3,bs,tops M,rfl,SqL.of za,t3.tps (S.tps r),D,fun D6 H6 l6 s6 _ _ _ _ ky qW=>⟨D6,_,rfl,.inl (SqL.of ky),?_⟩⟩;have T:=(S.trans t3).trans s6;refine⟨_,rfl,O,_,rfl,.inl (SqL.of (T _ _ I)),fun L4 dz=>?_⟩;have t4:=Same.new (o:=.lst (os.map V.ref)) dz;refine⟨L4,os,pss,rfl,SqL.of za,t4.tps (T.tps J),G,fun D7 H7 l7 s7 _ _ _ _ kF rQ=>⟨D7,_,rfl,.inl (SqL.of kF),rfl,_,rfl,?_⟩⟩;have u7:=(T.trans t4).trans s7;rw[Aa,Aa,qW.1,rQ.1,show(shr (kb (tops M)) (zA (canon (tops M)))).length=(shr (kb pss) (zA (canon pss))).length from es,decide_eq_true rfl];refine aW ⟨zf (by simp),fun u v_=>?_⟩;have t5:=Same.new (o:=.lst [.int 2,.int 3]) v_;have U:=u7.trans t5;have W:=za (H:=H7) (a:=u) (o:=.lst [.int 2,.int 3]);generalize upd H7 u (.lst [.int 2,.int 3])=H8 at t5 U W;refine⟨u,rfl,⟨_,SqL.of W⟩,zC (K:=K) (a:=u) (xs:=[.int 2,.int 3]) (fun i σ v=>∃(b:Option V),σ=[some (.ref a),some (.ref p),some (.ref O),some (.ref e),q,some (.ref o),b]/\Same H8 v)
   ⟨_,rfl,Same.refl _⟩ (fun i σ v _ ⟨_,_,g⟩=>SqL.of (g _ _ W)) ?_ ?_⟩
  ·rintro j x σ v hx ⟨b,rfl,g⟩
   obtain⟨pr,rfl,F⟩:∃pr:Int,x=.int pr/\isP pr:=by
    match j,hx with
    |0,hx=>exact⟨2,(Am hx).symm,.inl rfl⟩
    |1,hx=>exact⟨3,(Am hx).symm,.inr (.inl rfl)⟩
    |n+2,hx=>simp at hx
   have X:=U.trans g;refine⟨_,rfl,_,rfl,o,bs,tops M,pr,rfl,SqL.of (X _ _ z),X.tps r,D,F,fun D1 iV g1 dm _ iZ nu=>?_⟩;have qC:=X.trans dm;refine⟨_,rfl,_,rfl,O,os,pss,pr,rfl,SqL.of (qC _ _ I),qC.tps J,G,F,fun D2 xr g2 p7 _ uy a9=>?_⟩;refine⟨D1,D2,_,_,rfl,rfl,SqL.of (p7 _ _ nu),SqL.of a9,_,rfl,?_⟩;rw[M3 F c L iZ uy,decide_eq_true rfl];exact aW ⟨_,rfl,(g.trans dm).trans p7⟩
  ·rintro σ v ⟨b,rfl,g⟩
   exact⟨_,_,rfl,(sm.trans U).trans g⟩
 ·rintro σ h ⟨y,b,rfl,sm⟩
  exact k h
def M5(F:Fun K "law" "law" fz f fd)(B:Bt mg)(Cc:L2.Cl P w K mg base aJ "_law_cell_at" ["script","k"] 1 (C_ K))(Cx:L2.Cl P w K mg base aJ "_law_box" ["cell"] 1 C')(Ct:L2.Cl P w K mg base aJ "_law_take" ["box","most"] 1 qy)(Cw:L2.Cl P w K mg base aJ "_law_web" ["box"] 3 Dc)(Cp:L2.Cl P w K mg base aJ "pushes" ["web"] 9 (D5 K))(Cf:L2.Cl P w K mg base aJ "free_pairs" ["web"] 9 (og K))(Cd:L2.Cl P w K mg base aJ "pushed" ["web","piece"] 10 (D_ K))(Cb:L2.Cl P w K mg base aJ "balance" ["web"] 10 (yq K))(Cs:L2.Cl P w K mg base aJ "shares" ["web"] 9 (yu K))(Ch:L2.Cl P w K mg base aJ "_law_holes_of" ["web","prime"] 3 (y_ K)):FnOk P w K mg base aJ 11 f fd ["script"] (tj K):=by
 refine F.ok kE (fun vs H Q E h=>?_) (fun cdv A outer s H vs Q E hr h=>?_)
 ·obtain⟨a,ns,rfl,_⟩:=h;rfl
 ·obtain⟨a,ns,rfl,hS,hn,k⟩:=h
  have aD:=hr.units;have u:Room 1 _:=hr.mono ξ;have kg:Room 3 _:=hr.mono ξ;have jw:Room 9 _:=hr.mono ξ;obtain⟨tr,vS,rest⟩:=M4 (f:=f) (cdv:=cdv) (A:=A) (outer:=outer) (s:=s) (H:=H) (Q:=Q) (E:=E) hr B Cb Cs Ch;refine⟨_,zd (zp (i:=1) kE.nd rfl (Or.inl rfl) (dM Cx u rfl al (zb (dM Cc u rfl al (zb (pv 0) (zb zi zc))) zc)))
   (zd (zp (i:=2) kE.nd rfl (Or.inl rfl) (dM Cw kg rfl al (zb (pv 1) zc)))
   (zd (zp (i:=3) kE.nd rfl (Or.inl rfl) (z0 (zb (cd eT (dM Cp jw rfl al (zb (zm zO rfl B.list du (zb (pv 2) zc)) zc)) zi (fun _ _=>rfl)) zc)))
   (zd (zp (i:=4) kE.nd rfl (Or.inl rfl) (dM Cf jw rfl al (zb (zm zO rfl B.list du (zb (pv 2) zc)) zc)))
   (zd (cY (zt (Kb aD) (pv 4) (z0 zc) (ao _))
    (zg (gN (eU PySem.F.plainAttrs_list PySem.F.slot_list_append PySem.F.type_list_append ig (pv 3) (zb (dM Cd hr rfl al (zb (zm zO rfl B.list du (zb (pv 2) zc)) (zb (cd eT (cd zU (pv 4) (dM Ct u rfl al (zb (pv 1) (zb (zl zj rfl B.len cH (zb (pv 4) zc)) zc))) (fun _ _=>rfl)) zi (fun _ _=>rfl)) zc))) zc)))) zE)
   vS)))),?_⟩
  refine⟨_,rfl,a,ns,rfl,hS,fun n=>⟨n,rfl,fun p x y hp bo=>?_⟩⟩;refine⟨_,rfl,p,rfl,⟨x,y,za,bo⟩,fun O os pss H1 ib bZ _ G T I=>?_⟩;obtain⟨hw,hnd,oF⟩:=qZ I;have lX:=xZ I;have W:cv pss:=⟨hw,by rw[zY];omega⟩;refine⟨_,rfl,O,_,rfl,.inl (SqL.of G),fun LW sn=>?_⟩;have X:=Same.new (o:=.lst (os.map V.ref)) sn;refine⟨LW,os,pss,rfl,SqL.of za,X.tps T,W,fun T0 RD TT H3 rs zs N bs s3 nJ jY fW bL wy p5 eI=>?_⟩;refine⟨T0,_,_,_,rfl,rfl,SqT.of nJ,zy (j:=1) rfl,zf (by simp),fun q U=>?_⟩;have L:=Same.new (o:=.lst [.ref TT]) U;have Y:=(X.trans s3).trans L;have jM:upd H3 q (.lst [.ref TT]) q=some (.lst ([TT].map V.ref)):=za;generalize upd H3 q (.lst [.ref TT])=H4 at L Y jM;refine⟨_,rfl,O,_,rfl,.inl (SqL.of (Y _ _ G)),fun L5 kx=>?_⟩;have s5:=Same.new (o:=.lst (os.map V.ref)) kx;have u5:=Y.trans s5;refine⟨L5,os,pss,rfl,SqL.of za,u5.tps T,W,fun FR H6 ts s6 tY ue q9=>?_⟩;have u6:=u5.trans s6;refine⟨_,rfl,zf (by simp),fun EL tX=>?_⟩;have C:=Same.new (o:=.lst []) tX;have M:=u6.trans C;have S:=(s5.trans s6).trans C;have jP:=za (H:=H6) (a:=EL) (o:=.lst []);have hC:=C _ _ ue;have hX:=q9.same C;generalize upd H6 EL (.lst [])=H7 at C M S jP hC hX;have lO:=M _ _ G;have j7:=M.tps T;have fY:=S _ _ jM;have i4:=(L.trans S) _ _ p5;have jK:=(L.trans S).tps eI;have o1:Oth pss H7 TT N:=⟨⟨bs,i4,jK⟩,zs,bL⟩;refine⟨FR,EL,ts,[],_,[],rfl,rfl,SqL.of hC,hX,SqL.of jP,.nil,_,rfl,?_⟩;rw[if_pos rfl]
  by_cases hf:frL pss=[]
  ·rw[decide_eq_true hf]
   exact aW (rest a p O q os [TT] pss [N] _ H7 lO j7 I fY (.cons o1 .nil) k)
  rw[decide_eq_false hf];have iA:=bZ.same M;refine bb ⟨_,rfl,.inl ⟨rfl,_,SqL.of fY⟩,_,rfl,O,_,rfl,.inl (SqL.of lO),fun L8 kR=>?_⟩;have g:=Same.new (o:=.lst (os.map V.ref)) kR;have hG:=za (H:=H7) (a:=L8) (o:=.lst (os.map V.ref));have c:=iA.same g;generalize upd H7 L8 (.lst (os.map V.ref))=H8 at g hG c;have gA:=g _ _ hC;have jH:=hX.same g;have xC:=jH.length;have cP:=La pss;rw[zY] at cP;have tV:0<(frL pss).length:=List.length_pos_iff.mpr hf;refine⟨_,rfl,_,rfl,_,rfl,FR,_,rfl,.inl (SqL.of gA),p,_,rfl,c,by rw[Aa];omega,by rw[Aa];omega,fun r H9 r0 r1 d wT=>?_⟩;rw[Aa] at r1;obtain⟨m,rfl⟩:=Int.eq_ofNat_of_zero_le r0;have hm:m<ts.length:=ω
  obtain⟨z,ez,b,cc,i5,hb,hc⟩:=jH.get (Ae hm);have hz:=Al ez;have lK:=d _ _ (c.ne gA) gA;have nT:ts[m]≠p:=c.net i5;refine⟨FR,_,_,_,rfl,rfl,SqL.of lK,zy (j:=m) (by rw[Ak,Ae hm];rfl),ts[m],_,_,_,rfl,rfl,SqT.of (d _ _ nT i5),zy (j:=0) rfl,?_⟩;have oX:=g _ _ lO;have uu:=d _ _ (c.ne oX) oX;have pW:=d.tps c (g.tps j7);have qS:=d _ _ (c.ne hG) hG;have i6:=g _ _ fY;have gP:=d _ _ (c.ne i6) i6;have i_:=g _ _ i4;have lN:=d _ _ (c.ne i_) i_;have l_:=d.tps c (g.tps jK);have nB:Tp H9 b z.1:=d _ _ (c.net hb) hb;refine⟨L8,b,os,pss,z,rfl,SqL.of qS,pW,W,hz,nB,fun D J ds v bH hD cV=>?_⟩;have fE:=v _ _ gP;refine⟨q,_,_,rfl,rfl,fE,by rw[Aa];exact zM (by simp),?_⟩;have mG:∀{l:Addr}{xs:List V},J l=some (.lst xs)->l≠q->upd J q (.lst ([TT].map V.ref++[.ref D])) l=some (.lst xs):=fun h hn=>by rw[ab hn];exact h
  have nS:∀{as:List Addr}{aB:Ξ},Tps J as aB->Tps (upd J q (.lst ([TT].map V.ref++[.ref D]))) as aB:=fun h=>Tps.upd h fE (by intro xs z;cases z);have sY:run (canon pss) [z]=some (cA pss z):=by
   unfold run;rw[if_pos (show z∈fr (canon pss) from hz)]
   rfl
  refine rest a p O q os [TT,D] pss [N,cA pss z] _ _ (mG (v _ _ uu) ?_) (nS (v.tps pW)) I (by rw[za];rfl) (.cons ⟨⟨bs,mG (v _ _ lN) ?_,nS (v.tps l_)⟩,zs,bL⟩ (.cons ⟨⟨ds,mG hD ?_,nS cV⟩,[z],sY⟩ .nil)) k
  ·exact ze G (X.free (s3.free U))
  ·exact ze p5 U
  ·exact fun e=>by rw[e] at bH;rw[bH] at gP;cases gP
end
end K50
end
section
namespace K50
open K1
open PySem L2 STb
def M6{l:PySem.W.OpenLaw}{w:World}{K:Af}{h:Heap}{mg:Str->Option Value}{fa f1 f2 f3 f4 f5 f6 f7 f8 f9 qR sZ qY uZ rX uh qU uz vX u3 vw sO vq wq vt wj qH tm uF vR qV sE t9 rK :Addr}{tp tq tr ts:Tok}(X:K.In h)(G:h.Ns mainGlobals mg)(rp:mg "law"=some (.ref fa))(d1:Df K "is_piece" qo f1)(d2:Df K "parts_of" lc f2)(d3:Df K "rims_of" lv f3)(d4:Df K "order_key" d0 f4)(d5:Df K "in_order" li f5)(d6:Df K "all_parts" sAll f6)(d7:Df K "greatest_of" lw f7)(d8:Df K "is_web" qp f8)(d9:Df K "must_be_web" rf f9)(kt:Df K "pieces" iY qR)(tN:Df K "counts" oh sZ)(wa:Df K "balance" yp qY)(wE:Df K "pieces_about" rT uZ)(sW:Df K "shares" om rX)(vF:Df K "renamed" rW uh)(vm:Df K "free_pairs" yl qU)(sP:Df K "free_among" jZ uz)(sd:Df K "pushed" ym vX)(uM:Df K "taken_out" lA u3)(rM:Df K "pushes" yk vw)(t6:Df K "_law_cell_at" xU sO)(vM:Df K "_law_box" jI vq)(rm:Df K "_law_take" nF wq)(wu:Df K "_law_parts" nG vt)(vh:Df K "_law_pieces" xX wj)(uD:Df K "_law_known" qD qH)(rA:Df K "_law_named" nO tm)(uq:Df K "_law_web" jN uF)(sy:Df K "_law_rank" lL vR)(uJ:Df K "_law_holes" gF qV)(wc:Df K "_law_seam" sI sE)(vU:Df K "_law_holes_of" y8 t9)(oS:Df K "law" fz rK)(gp:Nn K "MOST_POINTS" (some (.int 5 tp)))(gq:Nn K "LAST_POINT" (some (.int 99 tq)))(gr:Nn K "MOST_HANDED" (some (.int 20 tr)))(gs:Nn K "MOST_PIECES" (some (.int 200 ts)))(z1:Nn K "len" none)(z2:Nn K "all" none)(z3:Nn K "zip" none)(z4:Nn K "sorted" none)(z5:Nn K "set" none)(z6:Nn K "list" none)(z7:Nn K "tuple" none)(z8:Nn K "range" none)(z9:Nn K "enumerate" none)(ur:Nn K "int" none)(vD:Nn K "isinstance" none)(r9:Nn K "reversed" none)(uv:Nn K "bool" none)(oY:Nn K "dict" none)(o0:Nn K "max" none)(uX:Nn K "sum" none):∃fd:FuncData,(∀(s:Shared)(v:Value),BindsTo s fd ⟨[v],[]⟩ [("script",v)])/\∀base:Heap,K.In base->base.Ns mainGlobals mg->FnOk l.prog w K mg base aJ 11 fa fd ["script"] (tj K):=by
 cases rp.symm.trans (oS.m X G);have B:Bt mg:=⟨z1.n X G,z2.n X G,z3.n X G,z4.n X G,z5.n X G,z6.n X G,z7.n X G,z8.n X G,z9.n X G,ur.n X G,vD.n X G,r9.n X G,uv.n X G⟩;obtain⟨g1,F1,b1,m1⟩:=d1.g1 X G "numbers";obtain⟨g2,F2,A,C⟩:=d2.g1 X G "piece";obtain⟨g3,F3,D,E⟩:=d3.g1 X G "piece";obtain⟨g4,u,f,g⟩:=d4.g1 X G "piece";obtain⟨g5,x,i,j⟩:=d5.g1 X G "some";obtain⟨g6,y,F,H⟩:=d6.g1 X G "some";obtain⟨g7,z,I,J⟩:=d7.g1 X G "every";obtain⟨g8,F8,b8,m8⟩:=d8.g1 X G "web";obtain⟨g9,F9,b9,m9⟩:=d9.g1 X G "web";obtain⟨wS,a,b,c⟩:=kt.g1 X G "web";obtain⟨wF,L,sB,vg⟩:=tN.g1 X G "web";obtain⟨xG,M,tJ,tD⟩:=wa.g1 X G "web";obtain⟨w6,N,rH,sK⟩:=wE.g2 X G "web" "piece";obtain⟨wL,O,qL,uR⟩:=sW.g1 X G "web";obtain⟨wY,tu,wp,tH⟩:=vF.g3 X G "names" "new" "old";obtain⟨xo,Q,tz,sC⟩:=vm.g1 X G "web";obtain⟨xy,e,o,p⟩:=sP.g1 X G "every";obtain⟨xB,S,vZ,uU⟩:=sd.g2 X G "web" "piece";obtain⟨wI,T,U,Y⟩:=uM.g2 X G "every" "pair";obtain⟨xD,qB,rJ,mJ⟩:=rM.g1 X G "web";obtain⟨wJ,qc,vB,vd⟩:=t6.g2 X G "script" "k";obtain⟨xm,qw,ul,vP⟩:=vM.g1 X G "cell";obtain⟨xf,q,oK,o7⟩:=rm.g2 X G "box" "most";obtain⟨wH,uT,sJ,v9⟩:=wu.g1 X G "piece";obtain⟨xg,qz,vT,ww⟩:=vh.g1 X G "web";obtain⟨wM,sU,qN,v0⟩:=uD.g1 X G "number";obtain⟨xl,vE,vQ,u2⟩:=rA.g2 X G "box" "web";obtain⟨xa,p4,vp,vA⟩:=uq.g1 X G "box";obtain⟨w9,pZ,wC,uf⟩:=sy.g2 X G "rows" "prime";obtain⟨xn,qh,rN,tK⟩:=uJ.g2 X G "rows" "prime";obtain⟨xx,pf,t0,tZ⟩:=wc.g1 X G "chain";obtain⟨xq,pG,wv,vL⟩:=vU.g2 X G "web" "prime";obtain⟨⟨gL,FL⟩,_⟩:=oS;refine⟨gL,?_,fun base _ _=>?_⟩
 ·obtain⟨_,_,_,_,_,_,_,_,_,rfl,_,_⟩:=FL.ex;exact fun s v=>.of_eq rfl
 have mW:=C7 (P:=l.prog) (w:=w) (base:=base) y B F2 A C x i j u f g;have ld:=Jj (P:=l.prog) (w:=w) (base:=base) F8 B (gp.m X G) (gq.m X G) (gr.m X G) (gs.m X G) F1 b1 m1 y F H F2 A C x i j u f g;have Gm:=JV F9 F8 b8 m8 ld;have d:=JW a F9 b9 m9 Gm y F H mW;have i0:=J1 (P:=l.prog) (w:=w) (base:=base) z B F3 D E x i j u f g;have r:=Kj (P:=l.prog) (w:=w) (base:=base) e B F3 D E;have ut:=K_ qB B a b c d e o p r T U Y z I J i0;have uI:=K' N a b c d;have vV:=Ld S N rH sK uI e o p r z I J i0 T U Y;have qJ:=Lb Q a b c d e o p r;have vf:=Li L B (o0.n X G) a b c d;have uc:=Lj M (uX.n X G) L sB vg vf;have uV:=Lv O B a b c d tu wp tH;have rO:=Js (P:=l.prog) (w:=w) (base:=base) qz B uT sJ v9;have Cls:=eG pf t0 tZ (Mj (P:=l.prog) (w:=w) (base:=base) pf B (oY.n X G));have wf:=eG pZ wC uf (MF (P:=l.prog) (w:=w) (base:=base) pZ B (oY.n X G) (o0.n X G));have wd:=eG qh rN tK (MW qh B wf);have vy:=eG pG wv vL (MY pG Cls (eG qz vT ww rO) wd);exact M5 FL B (eG qc vB vd (Jl qc B)) (eG qw ul vP (Jn qw)) (eG q oK o7 (xW q)) (eG p4 vp vA (JE p4 B q oK o7 vE vQ u2 sU qN v0)) (eG qB rJ mJ ut) (eG Q tz sC qJ) (eG S vZ uU vV) (eG M tJ tD uc) (eG O qL uR uV) vy
def walk{l:PySem.W.OpenLaw}{q:Program}{g:List Str}{o:(Str->Option Value)->Heap->Prop}{b:World->Heap->Prop}{d:DefRec}{K:Params->Af}(hn:l.most=some 63)(i:d.params.defaults=[])(j:∀(w:World)(h:Heap),b w h->(K w.params).In h)(F:∀(w:World)(mg:Str->Option Value)(fa:Addr)(h:Heap),(K w.params).In h->h.Ns mainGlobals mg->mg d.name=some (.ref fa)->
   ∃fd:FuncData,(∀(s:Shared)(u:Value),BindsTo s fd ⟨[u],[]⟩ [("script",u)])/\∀base:Heap,(K w.params).In base->base.Ns mainGlobals mg->FnOk l.prog w (K w.params) mg base aJ 11 fa fd ["script"] (tj (K w.params))):
  PySem.W.WalkO q g o b l.row.toRowW d [] (fun f vs=>PySem.call f vs):=
 L2.B1 (n:=63) (k:=11) (x:="script") (CX:=fun _=>aJ) (sp:=fun w=>tj (K w.params)) hn ξ i ⟨rfl,ξ,ξ⟩ j F (fun _ _ a c hl _ e=>⟨a,c,rfl,e,hl,fun _=>rfl⟩) fun _ _ _ _ _ z=>z
end K50
open PySem PySem.W PyProof.Rows
structure PySem.W.Fast:Prop where
 (tw10002526466620580878 tw10061199864482823855 tw10074696956021193222 tw10089741090641570689 tw10236683290153505539 tw10256939473330749858 tw10328619214900821583 tw10468269210380369412 tw10536152243902226674 tw10591926994378611708 tw10707873993836221791 tw10872436682738117454 tw10898970363441419595 tw10907440803739366831 tw10922751373375837518 tw10937199069727409140 tw10944542294833645040 tw11118845885462043576 tw11128542306442399755 tw1113767370326742010 tw11369164758537517104 tw11375458874397866293 tw11386747098007744026 tw11446436451920088882 tw11532171138259547621 tw11545270515260416839 tw11552684626826359933 tw11742687839672285996 tw11931122617208710458 tw11994836358733120131 tw12034244421407729370 tw12056892521411404844 tw12057843896122451927 tw12094873826808845499 tw12097797645087003919 tw12111804557057757457 tw12150723516148579821 tw1249690258862217118 tw12653680390628941486 tw12663588197366431887 tw12787600429629320058 tw12835483360244752383 tw12933648523152582624 tw12968606973385401116 tw13005836887080629728 tw1301612125082121415 tw13107380091662456747 tw13352533396722773771 tw13353573164958548975 tw13439017221690697037 tw13516009161094406098 tw13603078506220708712 tw13621294546915977313 tw1371117716662542753 tw13736177893595678751 tw13762906055143890586 tw13920470085793498517 tw13958837794318713461 tw1401569992382389049 tw14124442420598949352 tw14162836168471128728 tw14163402618365014791 tw14185744432767805026 tw14191084897425359518 tw14220206110388805618 tw1435113808980895395 tw14385924628626993020 tw14439363446599180841 tw14596548938590897725 tw14633274558505798081 tw14687748313853448072 tw14698984425121311946 tw14708829951277046297 tw14754841629680127147 tw148025379881363063 tw14850555144236357043 tw14866582860708843323 tw15029325325367063546 tw15071405837694059300 tw15108900014086555104 tw15289190811614372417 tw15291827136766481710 tw15506322942116481474 tw15529542153190596899 tw15538665582917217336 tw15551743425161112773 tw15590123773325391342 tw15790625577741516712 tw15866722858027714125 tw15870066393103502656 tw1590715036169809332 tw15946859696781285529 tw15995028055419897450 tw16012783269191102564 tw16248835044788057208 tw16425251956197293116 tw16558473238368737706 tw16633352264731687479 tw16777806254000690088 tw1678967667227669363 tw168011141476136705 tw16834530723715815983 tw16971744063289757768 tw17028947909216105147 tw17154815203483119933 tw17158055332100650668 tw1724332657739290676 tw17356248435489357726 tw17494805961796198419 tw1755289658165527804 tw17557015628995082908 tw17587406839752111166 tw17690390100407894804 tw17829288880440635179 tw1790300010121258352 tw18066486359989304868 tw18075884245013292296 tw18266217905565174676 tw18307257595880359368 tw18416650511056039577 tw1879947574905403817 tw1891610076346553003 tw1919282306987867572 tw1934033241466034743 tw2073166383962048437 tw2085542815057128975 tw2115054525532058126 tw2268688110693629868 tw2330705040484225379 tw2376567900422763761 tw2393163913837202990 tw2435374970607254859 tw2466309428498741008 tw2529195831598067024 tw2568096699729820505 tw2621943476537076098 tw2643030192649454272 tw277447063125959958 tw2820037697559377529 tw2856606062914669865 tw2882649600826320196 tw2952099490585680942 tw297055397867560125 tw3007082938966060526 tw3011047528302970825 tw301658725064385477 tw3018614179897716411 tw3253610400268292962 tw3466530305554585215 tw3526273244583765461 tw3558057787028166123 tw3558176852915172616 tw3609638175645371316 tw368875910663871772 tw3701582970076929861 tw3804716116186544524 tw3808158922978495717 tw3857768183077430336 tw3932553334767909858 tw3962005363184314706 tw3994706142707647395 tw404760035381330524 tw4124932901824080819 tw4259133290671819165 tw4471792099392596346 tw4507145907715404312 tw4564158916100163434 tw4607753805459028308 tw463262695224565251 tw4668010596867508861 tw4701236977871913651 tw4829612810317600506 tw4864646609158713469 tw496109858095504903 tw5079657125356257335 tw5122582675658184974 tw5128838680120884271 tw51395852405038061 tw5146504597921124433 tw5148836902699792908 tw5220724208761973562 tw5272620843970717755 tw5421090946751616148 tw5433912166799654202 tw5440248134959814058 tw5453148780018748351 tw554405815692371233 tw5557545594313601829 tw5565999296774167312 tw5673442319369980986 tw5698490496873100304 tw589645296827696538 tw5910383333936163135 tw5969067513332327682 tw6027295518909685483 tw6044202182591992594 tw60740186666734080 tw615199076331823641 tw6253723570493875808 tw6342429236637242868 tw645766914152892051 tw6591666043506840320 tw6808963984039941735 tw7020398988225967766 tw723397232657349911 tw7256433273730573894 tw7291364245429561789 tw7344605455894679866 tw7396349027792089956 tw7422809769923718073 tw7580994880367600292 tw7617757249320294931 tw7697695405463578040 tw7851964458201889170 tw786604650792597503 tw7947812279632252473 tw7994867797886907631 tw8137498576404493403 tw8162578801616673758 tw8222582334288916614 tw8265795706273065858 tw8304863154507114314 tw8351293290679251521 tw837630948355302551 tw8415393269825133245 tw8455386271381544011 tw8460833891955767194 tw8563855787702229556 tw8614629628199127951 tw8646026444955688092 tw8680620607910570591 tw8704449939017560089 tw872621017848088801 tw8804763888170276313 tw888796031483316445 tw8936345774853815139 tw9017680299586727362 tw9068162763422097076 tw9206043909484428615 tw9230646680904835158 tw9307237244484246715 tw9346964438282181492 tw9368384893364886052 tw938764055337746792 tw9404160126434155764 tw9470898011900470458 tw9505952222546400018 tw9559267956739124478 tw9600290932747674755 tw9695560682769415307 tw9753930074409952233 tw9776293297661498357 tw9776333422151866403 tw9833727675777927103 tw9869462669204792247 tw9882125603296536242:True)
set_option maxRecDepth 100000 in
set_option maxHeartbeats 0 in
theorem PySem.Challenge.cw_seamwright_k50_whole_pushed_webs_keep_th_holds : PySem.Challenge.rw_seamwright_k50_whole_pushed_webs_keep_th.Holds := by
 w_on; o_law; k_head; (case hw=>w_witness2)
 k_fill
 refine K50.walk (l:=PySem.Challenge.rw_seamwright_k50_whole_pushed_webs_keep_th) rfl rfl (fun w h Y=>PySem.W.kIn_of Y) ?F
 case F=>
  intro w mg fa h KX G gv;refine' K50.M6 KX G gv ?_ ?_ ?_ ?_ ?_ ?_ ?_ ?_ ?_ ?_ ?_ ?_ ?_ ?_ ?_ ?_ ?_ ?_ ?_ ?_ ?_ ?_ ?_ ?_ ?_ ?_ ?_ ?_ ?_ ?_ ?_ ?_ ?_ ?_ ?_ ?_ ?_ ?_ ?_ ?_ ?_ ?_ ?_ ?_ ?_ ?_ ?_ ?_ ?_ ?_ ?_ ?_ ?_
  all_goals try first | refine' L2.yy ?_ ?_ ?_ ?_ | refine' L2.Nn.mk ?_
  all_goals try first | k_is | kit_is | k_exc
#print axioms PySem.Challenge.cw_seamwright_k50_whole_pushed_webs_keep_th_holds
end
