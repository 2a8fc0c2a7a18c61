import PyProof.Rows.All
import Wide.All
import OpenK.AllK
import Wide.FinOn
import Lean
import PyProof.EqAt
import PyProof.EqKinds
import PyProof.TupleCall
import PyProof.StationsW
import PyProof.ExcClass3
import OpenK.KOwn
import PyProof.ExcArgsOwn
import KE.KListMore
import KE.KIntText
import KE.KEqDat
import PyProof.MinMaxWalk
import PyProof.SumAny
import PyProof.Rows.SortRuns
import KE.KSortKey
import PyProof.Rows.CallKwBuiltin
import PySem.SetTable
import PyProof.Rows.SetFrom
import PyProof.TupleKey
import PyProof.IsRules
import KE.KRevIter
import PyProof.ListRange
import PyProof.TupleOfGen
import PyProof.CollectIter
import PySem.Challenge.RW_seamwright_k22_steps_by_little_squares
import PyProof.FactsAll.set_2
import PyProof.FactsAll.subtypes_5
import KE.KDictList
import KE.KDictSum
import KE.KDictLaws
import PyProof.Rows.Range3
import KE.KStateDown
open List renaming length_map->Aa,getD_eq_getElem?_getD->Ab,getElem?_eq_getElem->Ac,range->Ah,getElem?_map->Aj,mem_of_getElem?->Am,take_of_length_le->An,map_append->Aq,mem_cons_self->At,replicate->Au,mem_cons_of_mem->Ay,size_toArray->AC,mem_append_right->AE,length_zipWith->AF,eq_nil_of_length_eq_zero->AG,zipWith->AH,getElem_mem->AI,length_append->AJ,length_cons->AO,getElem?_range->AQ,map_map->AV,getElem_map->AW,ext_getElem->AX,all_eq_true->AY,getElem_range->AZ,map_cons->A5,mem_append_left->A6,getElem_zipWith->A7,length_range->A9,map_congr_left->Ba,pairwise_cons->Be,getElem_of_mem->Bg,lookup_cons->Bm
open PySem renaming wpAny_bind->Ad,wpAny_pure->Ao,bootBuiltins->A4,wpAny_field->Bl,cellsFrom->Bp
open Nat renaming le_refl->Ae,le_trans->Ag,mul_le_mul_left->Ak,mul_le_mul_right->Al,lt_of_lt_of_le->Av,lt_of_le_of_lt->Ax,ne_of_lt->Az,pow_le_pow_right->AA,zero_le->AB,mul_le_mul->AL,mul_assoc->AN,one_le_two_pow->AT,le_add_right->Bb,lt_or_ge->Bh
open PySem.W renaming Frag->Af,kitOne->Bk
open PySem.Heap renaming get?_push_of_some->Ai,lt_size->Ar,get?_push_size->AK
open Bool renaming false_ne_true->Aw,and_eq_true->AU
open Int renaming natAbs_mul->AD,mul_assoc->AR,mul_zero->Bi,mul_comm->Bj
open Classical renaming byContradiction->AM
open Option.some renaming inj->AS
open PySem.PassesOwn renaming never->A0
open PyProof.Rows renaming take_snoc->A8
open PySem.NameKind renaming free->Bo
set_option linter.all false
set_option Elab.async false
set_option maxRecDepth 100000
set_option maxHeartbeats 4000000
def δ{p:Prop}(h:p:=by decide +kernel):p:=h
def ω{p:Prop}(h:p:=by (first|lia|omega)):p:=h
def ξ{p:Prop}(h:p:=by decide):p:=h
abbrev Ω:=PySem.Value->PySem.Shared->Prop
abbrev Ξ:=List (List Int)
abbrev Ψ:=List (PySem.Addr×PySem.Obj)
local macro_rules|`($s⁻¹)=>`(($s).heap.objs.size)
section
namespace L2
open PySem PySem.Spec PyProof.Rows
abbrev Key:=Sum Int Str
def mz:Key->Value->Bool
 |.inl k,v=>Value.isInt k v
 |.inr x,v=>Value.isStrOf x v
def DP(w:World):Key->Int
 |.inl k=>hashInt k
 |.inr x=>hashStr w x
def aO:∀{k:Key}{v:Value},mz k v=true->(∃i t,k=Sum.inl i/\v=Value.int i t)\/(∃x t,k=Sum.inr x/\v=Value.str x t)
 |.inl i,v,h=>by
  obtain⟨t,e⟩:=Value.isInt_shape (k:=i) (v:=v) h;exact .inl ⟨i,t,rfl,e⟩
 |.inr x,v,h=>by
  obtain⟨t,e⟩:=Value.isStrOf_shape (x:=x) (v:=v) h;exact .inr ⟨x,t,rfl,e⟩
def La(i:Int)(t:Tok):mz (.inl i) (.int i t)=true:=by simp[mz,Value.isInt]
def Lb(x:Str)(t:Tok):mz (.inr x) (.str x t)=true:=by simp[mz,Value.isStrOf]
def Lc(a b:Int):decide ((Sum.inl a:Key)=Sum.inl b)=(a==b):=by
 by_cases e:a=b
 ·subst e;simp
 ·have h:¬(Sum.inl a:Key)=Sum.inl b:=fun q=>e (Sum.inl.inj q)
  rw[decide_eq_false h];exact(beq_eq_false_iff_ne.mpr e).symm
def Ld(a b:Str):decide ((Sum.inr a:Key)=Sum.inr b)=decide (a=b):=by
 by_cases e:a=b
 ·subst e;simp
 ·have h:¬(Sum.inr a:Key)=Sum.inr b:=fun q=>e (Sum.inr.inj q)
  rw[decide_eq_false h,decide_eq_false e]
def Le(a:Int)(b:Str):decide ((Sum.inl a:Key)=Sum.inr b)=false:=decide_eq_false (fun q=>nomatch q)
def Lf(a:Str)(b:Int):decide ((Sum.inr a:Key)=Sum.inl b)=false:=decide_eq_false (fun q=>nomatch q)
def zV(prog:Program)(w:World):PySem.KeyKind prog w Key where
 is:=mz
 hash:=DP w
 inj:=fun v a b d hb=>by
  rcases aO d with ⟨i,t,rfl,rfl⟩|⟨x,t,rfl,rfl⟩
  ·rcases aO hb with ⟨j,u,rfl,e⟩|⟨y,u,rfl,e⟩
   ·injection e with e1 _;rw[e1]
   ·exact nomatch e
  ·rcases aO hb with ⟨j,u,rfl,e⟩|⟨y,u,rfl,e⟩
   ·exact nomatch e
   ·injection e with e1 _;rw[e1]
 byValue:=fun k v h=>by
  rcases aO h with ⟨i,t,rfl,rfl⟩|⟨x,t,rfl,rfl⟩<;>rfl
 pyHash:=fun c h=>by
  rcases aO c with ⟨i,t,rfl,rfl⟩|⟨x,t,rfl,rfl⟩
  ·exact wpAny_pyHash_int h
  ·exact wpAny_pyHash_str h
 eqBool:=fun hu c h=>by
  rcases aO hu with ⟨i,t,rfl,rfl⟩|⟨x,t,rfl,rfl⟩
  ·rcases aO c with ⟨j,u,rfl,rfl⟩|⟨y,u,rfl,rfl⟩
   ·rw[Lc] at h;exact wpAny_eqBool_int h
   ·rw[Le] at h;exact SeqAt.EqAt.int_str i t y u _ _ _ _ h
  ·rcases aO c with ⟨j,u,rfl,rfl⟩|⟨y,u,rfl,rfl⟩
   ·rw[Lf] at h;exact SeqAt.EqAt.str_int x t j u _ _ _ _ h
   ·rw[Ld] at h;exact wpAny_eqBool_str h
 «strs»:=fun k x t v h=>by
  rcases aO h with ⟨i,u,rfl,e⟩|⟨y,u,rfl,e⟩
  ·exact nomatch e
  ·injection e with e1 _
   subst e1;cases v<;>rfl
def Lg(prog:Program)(w:World)(i:Int)(t:Tok):(zV prog w).is (.inl i) (.int i t)=true:=La i t
def Lh(prog:Program)(w:World)(x:Str)(t:Tok):(zV prog w).is (.inr x) (.str x t)=true:=Lb x t
inductive V where
 |non|bl (b:Bool)|int (i:Int)|str (x:Str)|byt (b:Array UInt8)|flt (b:UInt64)|ref (a:Addr)|ty (n:String)
 deriving DecidableEq
def RelV:V->Value->Prop
 |.non,u=>u=Value.none
 |.bl b,u=>u=Value.bool b
 |.int i,u=>∃t,u=Value.int i t
 |.str x,u=>∃t,u=Value.str x t
 |.byt b,u=>∃t,u=Value.bytes b t
 |.flt b,u=>∃t,u=Value.float b t
 |.ref a,u=>u=Value.ref a
 |.ty n,u=>u=Value.type n
abbrev Vals:List V->List Value->Prop:=Paired RelV
def Vals.length{xs:List V}{us:List Value}(r:Vals xs us):xs.length=us.length:=Paired.length r
def Vals.get:∀{xs:List V}{us:List Value}{i:Nat}{x:V},Vals xs us->xs[i]?=some x->∃u,us[i]?=some u/\RelV x u
 |_,_,_,_,.nil,e=>by simp at e
 |_,_,0,_,.cons r _,e=>by simp at e;subst e;exact⟨_,rfl,r⟩
 |_,_,i+1,x,.cons _ t,e=>by
  obtain⟨u,h1,h2⟩:=Vals.get (i:=i) (x:=x) t (by simpa using e);exact⟨u,by simpa using h1,h2⟩
def Vals.set{x:V}{u:Value}(r:RelV x u):∀{xs:List V}{us:List Value}(i:Nat),Vals xs us->Vals (xs.set i x) (us.set i u)
 |_,_,_,.nil=>.nil
 |_,_,0,.cons _ t=>.cons r t
 |_,_,i+1,.cons q t=>.cons q (Vals.set r i t)
def Vals.append{xs ys:List V}{us a:List Value}(h:Vals xs us)(g:Vals ys a):Vals (xs++ys) (us++a):=by
 induction h with
 |nil=>exact g
 |cons r _ ih=>exact .cons r ih
def Vals.take:∀{xs:List V}{us:List Value}(n:Nat),Vals xs us->Vals (xs.take n) (us.take n)
 |_,_,0,_=>.nil
 |_,_,_+1,.nil=>.nil
 |_,_,n+1,.cons r t=>.cons r (Vals.take n t)
def Vals.drop:∀{xs:List V}{us:List Value}(n:Nat),Vals xs us->Vals (xs.drop n) (us.drop n)
 |_,_,0,r=>r
 |_,_,_+1,.nil=>.nil
 |_,_,n+1,.cons _ t=>Vals.drop n t
def RelO:Option V->Option Value->Prop
 |some v,some u=>RelV v u
 |none,none=>True
 |_,_=>False
def KV{κ:Type}:List (κ×V)->List (κ×Value)->Prop:=Paired fun(p:κ×V)(q:κ×Value)=>p.1=q.1/\RelV p.2 q.2
def kV:Key->V
 |.inl i=>.int i
 |.inr x=>.str x
inductive HO where
 |lst (xs:List V)
 |tup (xs:List V)
 |dK (kvs:List (Key×V))|dT (kvs:List (List Key×V))
 |set (S:Int->Bool) (n:Nat)
 |ins (C dx:Addr) (fs:List (Str×V))
 |own (x:Addr)
 |xd (fs:List (Str×V))
 |met (f x:Addr)
 |rng (lo hi:Int)
 |frz (o:Obj) (u:HO)
 |tbl (ps:Array Value)
 |ext (φ:Heap->Prop)
abbrev Hp:=Addr->Option HO
def upd(H:Hp)(a:Addr)(o:HO):Hp:=fun b=>if b=a then some o else H b
def za{H:Hp}{a:Addr}{o:HO}:upd H a o a=some o:=by unfold upd;rw[if_pos rfl]
def ao{H:Hp}{a b:Addr}{o:HO}(h:b≠a):upd H a o b=H b:=by unfold upd;rw[if_neg h]
def DQ{H:Hp}{a b:Addr}{o u:HO}(h:H a=some o)(h':H b=some u)(d:o≠u):a≠b:=by
 intro e;subst e;rw[h] at h';exact d (AS h')
def zk{H:Hp}{a b:Addr}{o:HO}(h:H a=some o)(h':H b=none):a≠b:=by
 intro e;subst e;rw[h] at h';cases h'
section
variable(P:Program)(w:World)
def zW(H:Hp)(h:Heap)(a:Addr):HO->Prop
 |.lst xs=>xs.length<=sizeLine/\∃(ad:List Value)(n:Nat),Vals xs ad/\h.get? a=some {cls:=.type "list",data:=.seq ad.toArray n}
 |.tup xs=>xs.length<=sizeLine/\∃ad:List Value,Vals xs ad/\IsTup h a ad.toArray
 |.dK kvs=>kvs.length<=sizeLine/\(a==sysModules)=false/\∃vs,KV kvs vs/\h.DictOf (zV P w) a vs
 |.dT kvs=>kvs.length<=sizeLine/\(a==sysModules)=false/\∃xs:List (List Key×Addr×Value),
   Paired (fun(p:List Key×V)(q:List Key×Addr×Value)=>p.1=q.1/\H q.2.1=some (.tup (p.1.map kV))/\RelV p.2 q.2.2) kvs xs/\
   ∃o es ep,h.get? a=some o/\o.ExactDict/\o.data=.dict es ep/\es.toList=xs.map (entryOfKey (tupleKind (zV P w)))/\(xs.map (·.1)).Nodup
 |.set S n=>h.SetOf (intKind P w) a S n
 |.ins C dx fs=>H dx=some (.own a)/\fs.length<=1000/\dx≠a/\h.get? a=some (PySem.W.instObj C dx)/\
   ∃mA,h.Ns1 dx mA/\(∀f,RelO (fs.lookup f) (mA f))/\PySem.Within mA (fs.map (·.1))
 |.own _=>∃o,h.get? a=some o
 |.xd fs=>∃mA,h.Ns1 a mA/\∀f,RelO (fs.lookup f) (mA f)
 |.rng lo hi=>∃t u v,h.get? a=some {cls:=.type "range",data:=.fields #[.int lo t,.int hi u,.int 1 v]}
 |.frz o u=>h.get? a=some o/\zW H h a u
 |.tbl ps=>h.get? a=some {cls:=.none,data:=.fields ps}
 |.met f x=>h.get? a=some (PySem.W.methodObj (.ref f) (.ref x))
 |.ext φ=>φ h/\(∃o,h.get? a=some o)/\∀h1 h2:Heap,φ h1->(∀o,h1.get? a=some o->h2.get? a=some o)->φ h2
def HOk(H:Hp)(h:Heap):Prop:=∀a o,H a=some o->zW P w H h a o
end
section
variable{P:Program}{w:World}{H H':Hp}{h h':Heap}{a:Addr}{o:HO}
def zW.lt(x:zW P w H h a o):a<h.objs.size:=by
 cases o with
 |lst xs=>obtain⟨_,_,_,_,e⟩:=x;exact Ar e
 |tup xs=>obtain⟨_,_,_,p⟩:=x;exact p.lt
 |dK kvs=>obtain⟨_,_,_,_,o,_,_,e,_⟩:=x;exact Ar e
 |dT kvs=>obtain⟨_,_,_,_,o,_,_,e,_⟩:=x;exact Ar e
 |set S n=>obtain⟨o,_,_,_,e,_⟩:=x;exact Ar e
 |ins C dx fs=>obtain⟨_,_,_,e,_⟩:=x;exact Ar e
 |own y=>obtain⟨_,e⟩:=x;exact Ar e
 |xd fs=>obtain⟨_,⟨_,_,_,e,_⟩,_⟩:=x;exact Ar e
 |rng lo hi=>obtain⟨_,_,_,e⟩:=x;exact Ar e
 |frz ob u=>obtain⟨e,_⟩:=x;exact Ar e
 |tbl ps=>exact Ar (show h.get? a=some _ from x)
 |met f y=>exact Ar (show h.get? a=some _ from x)
 |ext φ=>obtain⟨_,⟨_,e⟩,_⟩:=x;exact Ar e
def Paired.mapP{c d:Type}{F G:c->d->Prop}{e:List c}{l₂:List d}(h:Paired F e l₂)(f:∀a b,F a b->G a b):Paired G e l₂:=by
 induction h with
 |nil=>exact .nil
 |cons r _ ih=>exact .cons (f _ _ r) ih
def zW.stay(x:zW P w H h a o)(k:∀b u,(b=a\/H b=some (.own a))->h.get? b=some u->h'.get? b=some u)(j:∀b,H b=some (.own a)->H' b=some (.own a))(l:∀b xs,H b=some (.tup xs)->H' b=some (.tup xs)):zW P w H' h' a o:=by
 induction o with
 |lst xs=>obtain⟨z,ad,n,r,e⟩:=x;exact⟨z,ad,n,r,k _ _ (.inl rfl) e⟩
 |tup xs=>obtain⟨z,ad,r,g,e,c⟩:=x;exact⟨z,ad,r,g,k _ _ (.inl rfl) e,c⟩
 |dK kvs=>obtain⟨z,y,vs,r,g,es,ep,e,c⟩:=x;exact⟨z,y,vs,r,g,es,ep,k _ _ (.inl rfl) e,c⟩
 |dT kvs=>
  obtain⟨z,y,xs,r,g,es,ep,e,c⟩:=x;exact⟨z,y,xs,Paired.mapP r fun p q z=>⟨z.1,l _ _ z.2.1,z.2.2⟩,g,es,ep,k _ _ (.inl rfl) e,c⟩
 |set S n=>obtain⟨g,es,ep,t,e,c⟩:=x;exact⟨g,es,ep,t,k _ _ (.inl rfl) e,c⟩
 |ins C dx fs=>
  obtain⟨d,z,ne,e,mA,⟨i,es,ep,e2,c⟩,r⟩:=x;exact⟨j _ d,z,ne,k _ _ (.inl rfl) e,mA,⟨i,es,ep,k _ _ (.inr d) e2,c⟩,r⟩
 |own y=>obtain⟨g,e⟩:=x;exact⟨g,k _ _ (.inl rfl) e⟩
 |xd fs=>obtain⟨mA,⟨i,es,ep,e,c⟩,r⟩:=x;exact⟨mA,⟨i,es,ep,k _ _ (.inl rfl) e,c⟩,r⟩
 |rng lo hi=>obtain⟨t,u,v,e⟩:=x;exact⟨t,u,v,k _ _ (.inl rfl) e⟩
 |frz g u ih=>obtain⟨e,q⟩:=x;exact⟨k _ _ (.inl rfl) e,ih q⟩
 |tbl ps=>
  have e:h.get? a=some {cls:=.none,data:=.fields ps}:=x;show h'.get? a=some {cls:=.none,data:=.fields ps};exact k a _ (.inl rfl) e
 |met f y=>
  have e:h.get? a=some (PySem.W.methodObj (.ref f) (.ref y)):=x;show h'.get? a=some (PySem.W.methodObj (.ref f) (.ref y));exact k a _ (.inl rfl) e
 |ext φ=>obtain⟨p,⟨o,e⟩,st⟩:=x;exact⟨st _ _ p fun o q=>k _ _ (.inl rfl) q,⟨o,k _ _ (.inl rfl) e⟩,st⟩
def HOk.lt(x:HOk P w H h)(e:H a=some o):a<h.objs.size:=(x a o e).lt
def HOk.fresh(x:HOk P w H h)(e:h.objs.size<=a):H a=none:=by
 cases q:H a with
 |none=>rfl
 |some u=>exact absurd (Av (x.lt q) e) (Nat.lt_irrefl _)
def HOk.kept(x:HOk P w H h)(k:∀b u,h.get? b=some u->h'.get? b=some u):HOk P w H h':=fun a o e=>
 (x a o e).stay (fun b u _ q=>k b u q) (fun _ q=>q) fun _ _ q=>q
def HOk.laid(x:HOk P w H h)(k:∀b u,h.get? b=some u->h'.get? b=some u)(hp:h.objs.size<=a)(new:zW P w (upd H a o) h' a o):HOk P w (upd H a o) h':=fun b u e=>by
 have hn:=x.fresh hp
 by_cases hb:b=a
 ·subst hb;rw[za] at e;cases e;exact new
 ·rw[ao hb] at e
  exact(x b u e).stay (fun c v _ q=>k c v q) (fun c q=>by rw[ao (zk q hn)];exact q) fun c xs q=>by rw[ao (zk q hn)];exact q
end
def Rd(H:Hp)(a:Addr)(u:HO):Prop:=H a=some u\/∃o,H a=some (.frz o u)
def Rd.of{H:Hp}{a:Addr}{u:HO}(h:H a=some u):Rd H a u:=.inl h
def Rd.ok{P:Program}{w:World}{H:Hp}{h:Heap}{a:Addr}{u:HO}(r:Rd H a u)(x:HOk P w H h):zW P w H h a u:=by
 rcases r with r|⟨o,r⟩
 ·exact x a u r
 ·obtain⟨_,q⟩:=x a _ r
  exact q
def pi:Option HO->Prop
 |some (.lst _)=>True
 |some (.dK _)=>True
 |some (.dT _)=>True
 |some (.set _ _)=>True
 |some (.ins _ _ _)=>True
 |some (.ext _)=>True
 |_=>False
section
variable{P:Program}{w:World}{H:Hp}{h h':Heap}{x e:Addr}{o':HO}
def HOk.write(ok:HOk P w H h)(mu:pi (H x))(g:e=x\/H e=some (.own x))(k:∀b u,b≠e->h.get? b=some u->h'.get? b=some u)(l:∃u,h'.get? e=some u)(new:zW P w (upd H x o') h' x o'):HOk P w (upd H x o') h':=fun b u q=>by
 have d:∀c y,H c=some (.own y)->c≠x:=fun c y r z=>by subst z;rw[r] at mu;exact mu
 have f:∀c xs,H c=some (.tup xs)->c≠x:=fun c xs r z=>by subst z;rw[r] at mu;exact mu
 by_cases hb:b=x
 ·subst hb;rw[za] at q;cases q;exact new
 ·rw[ao hb] at q
  by_cases a:b=e
  ·have i:H b=some (.own x):=by
    rcases g with z|z
    ·exact absurd (a.trans z) hb
    ·rw[a];exact z
   rw[q] at i;cases i;obtain⟨v,j⟩:=l;exact⟨v,by rw[a];exact j⟩
  ·refine(ok b u q).stay (fun c v hc r=>k c v ?_ r) (fun c r=>by rw[ao (d c b r)];exact r) fun c xs r=>by rw[ao (f c xs r)];exact r
   rcases hc with rfl|hc
   ·exact a
   ·rintro rfl
    rcases g with z|z
    ·exact d c b hc z
    ·rw[hc] at z;cases z;exact hb rfl
end
structure Un(fs ex:List Addr)(H H':Hp)(h h':Heap):Prop where
 keep:∀b o,h.get? b=some o->H b=none->b∉fs->b∉ex->h'.get? b=some o
 slot:∀b o,h.get? b=some o->H b=none->b∈fs->b∉ex->∃sl,h'.get? b=some {o with slots:=sl}
 free:∀b o,h.get? b=some o->H b=none->b∉ex->H' b=none
 there:∀b o,h.get? b=some o->b∉ex->∃o',h'.get? b=some o'
 tups:∀b xs,H b=some (.tup xs)->H' b=some (.tup xs)
 frzs:∀b o u,H b=some (.frz o u)->H' b=some (.frz o u)
 tbls:∀b ps,H b=some (.tbl ps)->∃more,H' b=some (.tbl (ps++more))
section
variable{fs xp ex B3:List Addr}{H H1 H2:Hp}{h h1 h2 h':Heap}{a x e:Addr}{o:HO}
def Un.any(u:Un fs ex H H1 h h1){b:Addr}{a:Obj}(q:h.get? b=some a)(n:H b=none)(hx:b∉ex):∃c,h1.get? b=some {a with slots:=c}:=by
 by_cases hb:b∈fs
 ·exact u.slot b a q n hb hx
 ·exact⟨a.slots,u.keep b a q n hb hx⟩
def Un.kept(k:∀b u,h.get? b=some u->h'.get? b=some u):Un fs ex H H h h':=
 ⟨fun b a q _ _ _=>k b a q,fun b a q _ _ _=>⟨a.slots,k b a q⟩,fun _ _ _ n _=>n,fun b a q _=>⟨a,k b a q⟩,fun _ _ q=>q,fun _ _ _ q=>q,fun _ ps q=>⟨#[],by rw[q];simp⟩⟩
def Un.refl:Un fs ex H H h h:=Un.kept fun _ _ q=>q
def Un.laid(k:∀b u,h.get? b=some u->h'.get? b=some u)(hp:h.objs.size<=a)(hn:H a=none):Un fs ex H (upd H a o) h h' where
 keep:=fun b u q _ _ _=>k b u q
 slot:=fun b u q _ _ _=>⟨u.slots,k b u q⟩
 free:=fun b u q n _=>by rw[ao (Az (Av (Ar q) hp))];exact n
 there:=fun b u q _=>⟨u,k b u q⟩
 tups:=fun b xs q=>by rw[ao (zk q hn)];exact q
 frzs:=fun b u xs q=>by rw[ao (zk q hn)];exact q
 tbls:=fun b ps q=>⟨#[],by rw[ao (zk q hn),q];simp⟩
def Un.write(mu:pi (H x))(d:e=x\/H e=some (.own x))(k:∀b u,b≠e->h.get? b=some u->h'.get? b=some u)(f:∃u,h'.get? e=some u):Un fs ex H (upd H x o) h h':=by
 have hx:∀b,H b=none->b≠x:=fun b n z=>by subst z;rw[n] at mu;exact mu
 have hb:∀b,H b=none->b≠e:=fun b n z=>by
  subst z;rcases d with r|r
  ·exact hx b n r
  ·rw[n] at r;cases r
 have c:∀b u,H b=some u->¬pi (some u)->b≠x:=fun b u q nm z=>by subst z;rw[q] at mu;exact nm mu
 refine⟨fun b u q n _ _=>k b u (hb b n) q,fun b u q n _ _=>⟨u.slots,k b u (hb b n) q⟩,fun b u q n _=>by rw[ao (hx b n)];exact n,fun b u q _=>?_,
  fun b xs q=>by rw[ao (c b _ q fun z=>z)];exact q,fun b u xs q=>by rw[ao (c b _ q fun z=>z)];exact q,fun b ps q=>⟨#[],by rw[ao (c b _ q fun z=>z),q];simp⟩⟩
 by_cases a:b=e
 ·subst a;exact f
 ·exact⟨u,k b u a q⟩
end
def w9(h:Heap)(H:Hp):List Addr:=(Ah h.objs.size).filter fun a=>(H a).isSome
def dm(h:Heap)(H:Hp):Heap:=PySem.W.hideAll h (w9 h H)
def Li(h:Heap)(H:Hp):(dm h H).objs.size=h.objs.size:=PySem.W.hideAll_size _ _
def Lj{h:Heap}{H:Hp}{b:Addr}{o:Obj}(e:h.get? b=some o)(n:H b=none):(dm h H).get? b=some o:=
 PySem.W.hideAll_get _ e fun a=>by
  have q:(H b).isSome=true:=(List.mem_filter.mp a).2;rw[n] at q;simp at q
def Lk{h:Heap}{H:Hp}{b:Addr}{o:Obj}(e:(dm h H).get? b=some o):h.get? b=some o/\H b=none:=by
 have a:h.get? b=some o:=PySem.W.of_hideAll (w9 h H) e;refine⟨a,?_⟩;cases q:H b with
 |none=>rfl
 |some x=>
  have c:b∈w9 h H:=List.mem_filter.mpr ⟨List.mem_range.mpr (Ar a),by simp[q]⟩;have z:(dm h H).get? b=none:=PySem.W.hideAll_none (w9 h H) c;rw[z] at e;cases e
structure Mod(K:Af)(mg:Str->Option Value)(base:Heap):Prop where
 kin:K.In base
 glob:base.Ns mainGlobals mg
 blt:∃mb,base.Ns builtinsNs mb/\∀x:Str,x≠"__name__"->mb x=A4 x
 nolimit:base.NoLimit
structure Cx where
 prog:Program
 w:World
 K:Af
 mg:Str->Option Value
 base:Heap
 A:Around
 N:List Str
 s₀:Shared
 H₀:Hp
 env:Env
 outer:List Env
 stack:List Env
 ex:List Addr
 fn:Str->Bool
 calm:Bool
 pn:Ψ
 xe:Ω
def frs(l:List Env):List Addr:=l.filterMap (·.frame)
abbrev Cx.fs(X:Cx):List Addr:=frs X.outer
def pq(sc:Scope)(x:Str):Prop:=sc.names.lookup x=some .local\/sc.names.lookup x=some .cell\/sc.names.lookup x=some .free
def Loc(sc:Scope)(x:Str):Prop:=sc.names.lookup x=some .local\/sc.names.lookup x=some .cell
def Look(env:Env)(h:Heap)(m:Str->Option Value)(x:Str)(u:Value):Prop:=
 (env.kindOf x=some .local/\m x=some u)\/((env.kindOf x=some .cell\/env.kindOf x=some .free)/\∃c,env.cells.lookup x=some c/\h.IsCell c (some u))
structure Cx.Ok(X:Cx):Prop where
 mod:Mod X.K X.mg X.base
 kind:X.env.scope.kind=.function
 glob:X.env.globals=mainGlobals
 blt:X.env.builtins=builtinsNs
 above:X.s₀⁻¹<=X.env.locals
 inj:∀x y c,X.env.cells.lookup x=some c->X.env.cells.lookup y=some c->x=y
 has:∀x,(X.env.kindOf x=some .cell\/X.env.kindOf x=some .free)->∃c,X.env.cells.lookup x=some c
 cab:∀x c,X.fn x=true->X.env.cells.lookup x=some c->X.s₀⁻¹<=c
 hd:X.calm=true->X.A.handled=none
 frames:X.A.frames=some X.stack
 stk:X.stack=X.outer\/(X.stack=X.env::X.outer/\X.env.frame=some X.env.locals)
 exf:∀b∈X.ex,b≠X.env.locals/\∀x c,X.env.cells.lookup x=some c->c≠b
 bs:∀b o,X.base.get? b=some o->X.s₀.heap.get? b=some o/\X.H₀ b=none
 bsz:X.base.objs.size<=X.s₀⁻¹
 noex:∀b o,X.base.get? b=some o->b∉X.ex
 exfs:∀b∈X.ex,b∉X.fs
 funs:X.s₀.heap.FunFrames X.base X.outer
 frf:∀b∈X.fs,X.H₀ b=none
structure Inv(X:Cx)(aa:Ψ)(σ:List (Option V))(H:Hp)(s:Shared):Prop where
 ok:X.Ok
 os:s.os=X.s₀.os
 bare:AllBare s.gens
 base:Un X.fs X.ex X.H₀ H X.s₀.heap s.heap
 loc:∃m,s.heap.Ns X.env.locals m/\∀(i:Nat)(x:Str)(v:V),X.N[i]?=some x->σ[i]?=some (some v)->pq X.env.scope x->∃u,RelV v u/\Look X.env s.heap m x u
 cell:∀x c,X.env.cells.lookup x=some c->∃v,s.heap.IsCell c v
 free:H X.env.locals=none
 freeC:∀x c,X.env.cells.lookup x=some c->H c=none
 pin:∀p∈X.pn++aa,s.heap.get? p.1=some p.2/\H p.1=none/\p.1≠X.env.locals/\p.1∉X.fs/\∀v,p.2.data≠.cell v
 hok:HOk X.prog X.w H s.heap
 len:σ.length=X.N.length
section
variable{X:Cx}{aa:Ψ}{σ:List (Option V)}{H H':Hp}{s:Shared}{h':Heap}
def Cx.Ok.nofr(ok:X.Ok){b:Addr}{o:Obj}(e:X.base.get? b=some o):b∉X.fs:=fun hb=>by
 have:=(ok.funs.mem hb).1;rw[e] at this;cases this
def Inv.bs(I:Inv X aa σ H s):∀b o,X.base.get? b=some o->s.heap.get? b=some o/\H b=none:=fun b o e=>
 ⟨I.base.keep b o (I.ok.bs b o e).1 (I.ok.bs b o e).2 (I.ok.nofr e) (I.ok.noex b o e),I.base.free b o (I.ok.bs b o e).1 (I.ok.bs b o e).2 (I.ok.noex b o e)⟩
def Inv.bk(I:Inv X aa σ H s):∀b o,X.base.get? b=some o->s.heap.get? b=some o:=fun b o e=>(I.bs b o e).1
def Inv.mod(I:Inv X aa σ H s):Mod X.K X.mg X.base:=I.ok.mod
def Inv.kIn(I:Inv X aa σ H s):X.K.In s.heap:=I.ok.mod.kin.keeps I.bk
def Inv.nolimit(I:Inv X aa σ H s):s.heap.NoLimit:=I.ok.mod.nolimit.keeps I.bk
def Inv.lt(I:Inv X aa σ H s):X.env.locals<s⁻¹:=let ⟨_,hn,_⟩:=I.loc;hn.lt
def Inv.sz(I:Inv X aa σ H s):X.s₀⁻¹<=s⁻¹:=Ag I.ok.above (Nat.le_of_lt I.lt)
def Inv.nofs(I:Inv X aa σ H s){a:Addr}(h:s⁻¹<=a):a∉X.fs:=fun hb=>by
 obtain⟨_,o,b,_⟩:=I.ok.funs.mem hb;exact absurd (Av (Ar b) (Ag I.sz h)) (Nat.lt_irrefl _)
def Inv.cne(I:Inv X aa σ H s):∀x c,X.env.cells.lookup x=some c->c≠X.env.locals:=fun x c e z=>by
 obtain⟨v,o,b,hd⟩:=I.cell x c e;obtain⟨m,⟨o',es,ep,d,a,_⟩,_⟩:=I.loc;rw[z,d] at b;cases b;rw[a] at hd;cases hd
def Inv.funs(I:Inv X aa σ H s):s.heap.FunFrames X.base X.outer:=by
 have all:∀(l:List Env),(∀b∈frs l,b∈X.fs)->X.s₀.heap.FunFrames X.base l->s.heap.FunFrames X.base l:=by
  intro l
  induction l with
  |nil=>intro _ _;trivial
  |cons env r ih=>
   intro d f;obtain⟨hk,⟨L,o,a,hn,g,hd⟩,hr⟩:=f;have c:L∈X.fs:=d L (by unfold frs;rw[List.filterMap_cons,a];exact At);obtain⟨h,e⟩:=I.base.slot L o g (I.ok.frf L c) c fun z=>I.ok.exfs L z c;exact⟨hk,⟨L,_,a,hn,e,hd⟩,ih (fun b hb=>d b (by unfold frs;rw[List.filterMap_cons,a];exact Ay _ hb)) hr⟩
 exact all X.outer (fun _ hb=>hb) I.ok.funs
def Inv.stack(I:Inv X aa σ H s):s.heap.FunFrames X.base X.stack:=by
 rcases I.ok.stk with e|⟨e,a⟩
 ·rw[e];exact I.funs
 ·rw[e]
  obtain⟨m,hn,_⟩:=I.loc;refine .cons (by rw[I.ok.kind];decide) a hn ?_ I.funs;exact Heap.get?_none_of_le (Ag I.ok.bsz I.ok.above)
def Inv.stkSub(I:Inv X aa σ H s):∀b∈frs X.stack,b∈X.env.locals::X.fs:=fun b hb=>by
 rcases I.ok.stk with e|⟨e,a⟩
 ·rw[e] at hb;exact Ay _ hb
 ·rw[e] at hb
  unfold frs at hb;rw[List.filterMap_cons,a] at hb;exact hb
def Inv.stkFree(I:Inv X aa σ H s):∀b∈frs X.stack,H b=none:=fun b hb=>by
 rcases List.mem_cons.mp (I.stkSub b hb) with e|hb
 ·rw[e];exact I.free
 ·obtain⟨_,o,a,_⟩:=I.ok.funs.mem hb
  exact I.base.free b o a (I.ok.frf b hb) fun z=>I.ok.exfs b z hb
def Inv.step{g':Array GenState}{t':Nat}{d':Drawn}{ch:List Addr}(I:Inv X aa σ H s)(h:∀b∈ch,(b∈X.ex\/X.s₀⁻¹<=b)/\b≠X.env.locals/\(∀x c,X.env.cells.lookup x=some c->c≠b)/\∀p∈X.pn++aa,p.1≠b)(keep:∀b o,b≠X.env.locals->b∉X.fs->b∉ch->s.heap.get? b=some o->H b=none->h'.get? b=some o)(slot:∀b o,b≠X.env.locals->b∈X.fs->b∉ch->s.heap.get? b=some o->H b=none->∃A,h'.get? b=some {o with slots:=A})(free:∀b o,b∉ch->s.heap.get? b=some o->H b=none->H' b=none)(there:∀b o,b∉ch->s.heap.get? b=some o->∃o',h'.get? b=some o')(tups:∀b xs,H b=some (.tup xs)->H' b=some (.tup xs))(frzs:∀b o u,H b=some (.frz o u)->H' b=some (.frz o u))(tbls:∀b ps,H b=some (.tbl ps)->∃more,H' b=some (.tbl (ps++more)))(ns:∀m,s.heap.Ns X.env.locals m->h'.Ns X.env.locals m)(C:HOk X.prog X.w H' h')(hg:AllBare g'):Inv X aa σ H' {s with heap:=h',gens:=g',drawn:=d',toks:=t'}:=by
 have j:∀b o,X.s₀.heap.get? b=some o->b≠X.env.locals:=fun b o e=>Az (Av (Ar e) I.ok.above);have y:∀b o,X.s₀.heap.get? b=some o->b∉X.ex->b∉ch:=fun b o e hx hb=>by
  rcases(h b hb).1 with z|z
  ·exact hx z
  ·exact absurd (Av (Ar e) z) (Nat.lt_irrefl _)
 have a:∀x c,X.env.cells.lookup x=some c->∀v,s.heap.IsCell c v->h'.IsCell c v:=fun x c e v ⟨o,g,hd⟩=>by
  have f:c∉ch:=fun z=>(h c z).2.2.1 x c e rfl
  by_cases hc:c∈X.fs
  ·obtain⟨A,q⟩:=slot c o (I.cne x c e) hc f g (I.freeC x c e)
   exact⟨_,q,hd⟩
  ·exact⟨o,keep c o (I.cne x c e) hc f g (I.freeC x c e),hd⟩
 refine⟨I.ok,I.os,hg,⟨fun b o e n hb hx=>?_,fun b o e n hb hx=>?_,fun b o e n hx=>?_,fun b o e hx=>?_,fun b xs e=>tups b xs (I.base.tups b xs e),fun b o xs e=>frzs b o xs (I.base.frzs b o xs e),fun b ps e=>?_⟩,?_,fun x c e=>?_,?_,fun x c e=>?_,fun p hp=>?_,C,I.len⟩
 ·exact keep b o (j b o e) hb (y b o e hx) (I.base.keep b o e n hb hx) (I.base.free b o e n hx)
 ·obtain⟨A,e1⟩:=I.base.slot b o e n hb hx
  obtain⟨E,e2⟩:=slot b _ (j b o e) hb (y b o e hx) e1 (I.base.free b o e n hx);exact⟨E,e2⟩
 ·obtain⟨o',e1⟩:=I.base.there b o e hx
  exact free b o' (y b o e hx) e1 (I.base.free b o e n hx)
 ·obtain⟨o',e1⟩:=I.base.there b o e hx
  exact there b o' (y b o e hx) e1
 ·obtain⟨m1,e1⟩:=I.base.tbls b ps e
  obtain⟨m2,e2⟩:=tbls b _ e1;exact⟨m1++m2,by rw[e2,Array.append_assoc]⟩
 ·obtain⟨m,hn,F⟩:=I.loc
  refine⟨m,ns m hn,fun i x v e1 e2 e3=>?_⟩;obtain⟨u,r,l⟩:=F i x v e1 e2 e3;refine⟨u,r,?_⟩;rcases l with l|⟨k,c,e,z⟩
  ·exact .inl l
  ·exact .inr ⟨k,c,e,a x c e _ z⟩
 ·obtain⟨v,z⟩:=I.cell x c e
  exact⟨v,a x c e v z⟩
 ·obtain⟨m,⟨o,_,_,g,_⟩,_⟩:=I.loc
  exact free _ o (fun z=>(h _ z).2.1 rfl) g I.free
 ·obtain⟨v,o,g,hd⟩:=I.cell x c e
  exact free c o (fun z=>(h c z).2.2.1 x c e rfl) g (I.freeC x c e)
 ·obtain⟨e,n,ne,D,d⟩:=I.pin p hp
  have f:p.1∉ch:=fun z=>(h p.1 z).2.2.2 p hp rfl;exact⟨keep p.1 p.2 ne D f e n,free p.1 p.2 f e n,ne,D,d⟩
def Inv.un{t':Nat}(I:Inv X aa σ H s)(u:Un X.fs [] H H' s.heap h')(a:HOk X.prog X.w H' h'):Inv X aa σ H' {s with heap:=h',toks:=t'}:=by
 obtain⟨m,⟨o,es,ep,c,r⟩,_⟩:=id I.loc;obtain⟨p,g⟩:=u.any c I.free (by simp);exact I.step (g':=s.gens) (d':=s.drawn) (ch:=[]) (fun _ z=>nomatch z) (fun b o _ hb _ e n=>u.keep b o e n hb (by simp)) (fun b o _ hb _ e n=>u.slot b o e n hb (by simp)) (fun b o _ e n=>u.free b o e n (by simp)) (fun b o _ e=>u.there b o e (by simp)) u.tups u.frzs u.tbls (fun l f=>by
  obtain⟨o',h,i,d,j⟩:=f;rw[c] at d;cases d;exact⟨_,h,i,g,j⟩) a I.bare
def Inv.call{g':Array GenState}{t':Nat}{d':Drawn}{ch:List Addr}(I:Inv X aa σ H s)(u:Un (frs X.stack) ch H H' s.heap h')(d:HOk X.prog X.w H' h')(hg:AllBare g')(h:∀b∈ch,(b∈X.ex\/X.s₀⁻¹<=b)/\b≠X.env.locals/\(∀x c,X.env.cells.lookup x=some c->c≠b)/\∀p∈X.pn++aa,p.1≠b):Inv X aa σ H' {s with heap:=h',gens:=g',drawn:=d',toks:=t'}:=by
 obtain⟨m,⟨o,es,ep,f,r⟩,_⟩:=id I.loc;obtain⟨y,a⟩:=u.any f I.free fun z=>(h _ z).2.1 rfl;exact I.step (ch:=ch) h (fun b o a hb hc e n=>u.keep b o e n (fun z=>(List.mem_cons.mp (I.stkSub b z)).elim a hb) hc) (fun b o _ _ hc e n=>u.any e n hc) (fun b o hc e n=>u.free b o e n hc) (fun b o hc e=>u.there b o e hc) u.tups u.frzs u.tbls (fun v i=>by
  obtain⟨o',j,l,g,q⟩:=i;rw[f] at g;cases g;exact⟨_,j,l,a,q⟩) d hg
def Inv.turned{t':Nat}{it:Addr}(I:Inv X aa σ H s)(k:∀b o,b≠it->s.heap.get? b=some o->h'.get? b=some o)(hn:H it=none)(d:it≠X.env.locals)(h1:it∈X.ex\/X.s₀⁻¹<=it)(h2:∀x c,X.env.cells.lookup x=some c->c≠it)(h:∀p∈X.pn++aa,p.1≠it):Inv X aa σ H {s with heap:=h',toks:=t'}:=by
 have a:∀b u,H b=some u->b≠it:=fun b u e z=>by rw[z,hn] at e;cases e
 refine I.step (g':=s.gens) (d':=s.drawn) (ch:=[it]) (fun b hb=>?_) (fun b o _ _ hc e _=>k b o (fun z=>hc (by simp[z])) e) (fun b o _ _ hc e _=>⟨o.slots,k b o (fun z=>hc (by simp[z])) e⟩) (fun _ _ _ _ n=>n)
  (fun b o hc e=>⟨o,k b o (fun z=>hc (by simp[z])) e⟩) (fun _ _ e=>e) (fun _ _ _ e=>e) (fun b ps e=>⟨#[],by rw[e];simp⟩) (fun m f=>?_) (fun b u e=>?_) I.bare
 ·have e:b=it:=by simpa using hb
  subst e;exact⟨h1,d,h2,h⟩
 ·obtain⟨o,es,ep,g,r⟩:=f
  exact⟨o,es,ep,k _ o (Ne.symm d) g,r⟩
 ·refine(I.hok b u e).stay (fun c v hc q=>k c v ?_ q) (fun _ q=>q) fun _ _ q=>q
  rcases hc with z|z
  ·rw[z];exact a b u e
  ·exact a c _ z
def Inv.tok(I:Inv X aa σ H s)(t:Nat):Inv X aa σ H {s with toks:=t}:=I.un (h':=s.heap) (t':=t) Un.refl I.hok
def Inv.kept{t':Nat}(I:Inv X aa σ H s)(k:∀b u,s.heap.get? b=some u->h'.get? b=some u):Inv X aa σ H {s with heap:=h',toks:=t'}:=I.un (Un.kept k) (I.hok.kept k)
def Inv.laid{a:Addr}{o:HO}{t':Nat}(I:Inv X aa σ H s)(k:∀b u,s.heap.get? b=some u->h'.get? b=some u)(hp:s⁻¹<=a)(new:zW X.prog X.w (upd H a o) h' a o):Inv X aa σ (upd H a o) {s with heap:=h',toks:=t'}:=I.un (Un.laid k hp (I.hok.fresh hp)) (I.hok.laid k hp new)
def Inv.write{x e:Addr}{o:HO}{t':Nat}(I:Inv X aa σ H s)(mu:pi (H x))(a:e=x\/H e=some (.own x))(k:∀b u,b≠e->s.heap.get? b=some u->h'.get? b=some u)(c:∃u,h'.get? e=some u)(new:zW X.prog X.w (upd H x o) h' x o):Inv X aa σ (upd H x o) {s with heap:=h',toks:=t'}:=I.un (Un.write mu a k c) (I.hok.write mu a k c new)
def Inv.pins_of{bj:Ψ}(I:Inv X aa σ H s)(h:∀p∈bj,s.heap.get? p.1=some p.2/\H p.1=none/\p.1≠X.env.locals/\p.1∉X.fs/\∀v,p.2.data≠.cell v):Inv X bj σ H s:=
 ⟨I.ok,I.os,I.bare,I.base,I.loc,I.cell,I.free,I.freeC,fun p hp=>(List.mem_append.mp hp).elim (fun z=>I.pin p (A6 _ z)) (h p),I.hok,I.len⟩
def DR{N:List Str}(c:N.Nodup){i j:Nat}{x:Str}(a:N[i]?=some x)(b:N[j]?=some x):i=j:=by
 obtain⟨h1,e1⟩:=List.getElem?_eq_some_iff.mp a;obtain⟨h2,e2⟩:=List.getElem?_eq_some_iff.mp b;exact(List.getElem_inj c).mp (e1.trans e2.symm)
def GU{M:Model}{A:Around}{E:Ω}{i:Nat}{x:Str}{v:V}{u:Value}{Q:Unit->Shared->Prop}(I:Inv X aa σ H s)(hN:X.N.Nodup)(hi:X.N[i]?=some x)(hx:Loc X.env.scope x)(r:RelV v u)(h:∀s',Inv X aa (σ.set i (some v)) H s'->(∃a,Heap.SameBut a s.heap s'.heap/\(a=X.env.locals\/X.env.cells.lookup x=some a))->Q () s')(hf:X.fn x=true\/X.env.scope.names.lookup x=some .local:=by first|exact .inl rfl|exact .inr rfl|assumption):wpAny M A (storeName X.env x u) Q E s:=by
 obtain⟨m,hn,U⟩:=id I.loc;have gs:(X.env.scope.kind==.class|| (X.env.scope.kind==.module&&X.env.locals != X.env.globals))=false:=by rw[I.ok.kind];rfl
 have g:i<σ.length:=by rw[I.len];exact(List.getElem?_eq_some_iff.mp hi).1
 have cne:=I.cne;have c6:∀{a:Addr}{h':Heap},(∃o,s.heap.get? a=some o/\H a=none)->Heap.SameBut a s.heap h'->HOk X.prog X.w H h':=fun{a h'} ha f b ob e=>by
  obtain⟨_,_,W⟩:=ha;refine(I.hok b ob e).stay (fun c D hc q=>(f.2 c ?_).trans q) (fun _ q=>q) fun _ _ q=>q;rintro rfl;rcases hc with rfl|hc
  ·rw[W] at e;cases e
  ·rw[W] at hc;cases hc
 rcases hx with hk|hk
 ·refine wpAny_storeName_local hk hn (fun h' dM f=>?_) gs
  obtain⟨oL,_,_,iM,_⟩:=id hn;refine h _ ⟨I.ok,I.os,I.bare,⟨fun b o e n hb hx=>?_,fun b o e n hb hx=>?_,I.base.free,fun b o e hx=>?_,I.base.tups,I.base.frzs,I.base.tbls⟩,⟨_,dM,fun j y G e1 e2 e3=>?_⟩,fun y c e=>?_,I.free,I.freeC,fun p hp=>?_,c6 ⟨oL,iM,I.free⟩ f,by simpa using I.len⟩ ⟨_,f,.inl rfl⟩
  ·exact(f.2 b (Az (Av (Ar e) I.ok.above))).trans (I.base.keep b o e n hb hx)
  ·obtain⟨J,e1⟩:=I.base.slot b o e n hb hx
   exact⟨J,(f.2 b (Az (Av (Ar e) I.ok.above))).trans e1⟩
  ·obtain⟨o',e1⟩:=I.base.there b o e hx
   exact⟨o',(f.2 b (Az (Av (Ar e) I.ok.above))).trans e1⟩
  ·by_cases l:j=i
   ·subst l
    rw[hi] at e1;cases e1;rw[List.getElem?_set_self g] at e2;cases e2;exact⟨u,r,.inl ⟨hk,by simp⟩⟩
   ·rw[List.getElem?_set_ne (Ne.symm l)] at e2
    obtain⟨L,O,q⟩:=U j y G e1 e2 e3;refine⟨L,O,?_⟩;rcases q with ⟨k,e⟩|⟨k,c,e,z⟩
    ·refine .inl ⟨k,?_⟩
     have:y≠x:=fun e=>l (DR hN e1 (e▸hi));simp[this,e]
    ·exact .inr ⟨k,c,e,z.sameBut f (cne y c e)⟩
  ·obtain⟨D,z⟩:=I.cell y c e
   exact⟨D,z.sameBut f (cne y c e)⟩
  ·obtain⟨e,n,ne,P,d⟩:=I.pin p hp
   exact⟨(f.2 p.1 ne).trans e,n,ne,P,d⟩
 ·have S:X.fn x=true:=by
   rcases hf with z|z
   ·exact z
   ·rw[z] at hk;cases hk
  obtain⟨c,hc⟩:=I.ok.has x (.inl hk);obtain⟨D,z⟩:=I.cell x c hc;refine wpAny_storeName_cell I.ok.kind hk hc z (fun h' T f=>?_);obtain⟨Y,Z,kK⟩:=id z;refine h {s with heap:=h'} ⟨I.ok,I.os,I.bare,⟨fun b o e n hb hx=>?_,fun b o e n hb hx=>?_,I.base.free,fun b o e hx=>?_,I.base.tups,I.base.frzs,I.base.tbls⟩,⟨m,hn.sameBut f (Ne.symm (cne x c hc)),fun j y G e1 e2 e3=>?_⟩,fun y F e=>?_,I.free,I.freeC,fun p hp=>?_,c6 ⟨Y,Z,I.freeC x c hc⟩ f,by simpa using I.len⟩ ⟨c,f,.inr hc⟩
  ·exact(f.2 b (Az (Av (Ar e) (I.ok.cab x c S hc)))).trans (I.base.keep b o e n hb hx)
  ·obtain⟨J,e1⟩:=I.base.slot b o e n hb hx
   exact⟨J,(f.2 b (Az (Av (Ar e) (I.ok.cab x c S hc)))).trans e1⟩
  ·obtain⟨o',e1⟩:=I.base.there b o e hx
   exact⟨o',(f.2 b (Az (Av (Ar e) (I.ok.cab x c S hc)))).trans e1⟩
  ·by_cases l:j=i
   ·subst l
    rw[hi] at e1;cases e1;rw[List.getElem?_set_self g] at e2;cases e2;exact⟨u,r,.inr ⟨.inl hk,c,hc,T⟩⟩
   ·rw[List.getElem?_set_ne (Ne.symm l)] at e2
    obtain⟨L,O,q⟩:=U j y G e1 e2 e3;refine⟨L,O,?_⟩;rcases q with q|⟨k,F,e,z'⟩
    ·exact .inl q
    ·refine .inr ⟨k,F,e,z'.sameBut f ?_⟩
     rintro rfl;exact l (DR hN e1 (I.ok.inj _ _ _ e hc▸hi))
  ·by_cases C:F=c
   ·subst C;exact⟨_,T⟩
   ·obtain⟨w2,z2⟩:=I.cell y F e
    exact⟨w2,z2.sameBut f C⟩
  ·obtain⟨e,n,ne,P,d⟩:=I.pin p hp
   refine⟨(f.2 p.1 ?_).trans e,n,ne,P,d⟩;intro q;rw[q,Z] at e;have q':Y=p.2:=AS e;exact d D (by rw[<-q'];exact kK)
def mC{M:Model}{A:Around}{E:Ω}{i:Nat}{x:Str}{v:V}{u:Value}{Q:Unit->Shared->Prop}(I:Inv X aa σ H s)(a:X.N.Nodup)(hi:X.N[i]?=some x)(hx:Loc X.env.scope x)(r:RelV v u)(h:∀s',Inv X aa (σ.set i (some v)) H s'->Q () s')(b:X.fn x=true\/X.env.scope.names.lookup x=some .local:=by first|exact .inl rfl|exact .inr rfl|assumption):wpAny M A (storeName X.env x u) Q E s:=
 GU I a hi hx r (fun s' c _=>h s' c) b
def Inv.call'{s':Shared}{ch:List Addr}(I:Inv X aa σ H s)(d:s'.os=s.os)(u:Un (frs X.stack) ch H H' s.heap s'.heap)(a:HOk X.prog X.w H' s'.heap)(hg:AllBare s'.gens)(f:∀b∈ch,(b∈X.ex\/X.s₀⁻¹<=b)/\b≠X.env.locals/\(∀x c,X.env.cells.lookup x=some c->c≠b)/\∀p∈X.pn++aa,p.1≠b):Inv X aa σ H' s':=by
 obtain⟨h',g',d',t',o'⟩:=s';have e:o'=s.os:=d;subst e;exact I.call (g':=g') (t':=t') (d':=d') u a hg f
end
abbrev XK:=Value->Option Addr->Hp->Prop
abbrev St:=List (Option V)
abbrev VK:=V->Hp->Prop
abbrev TE:=St->Hp->VK->Prop
abbrev TT:=St->Hp->(Bool->Hp->Prop)->Prop
abbrev TA:=St->Hp->(List V->Hp->Prop)->Prop
structure Ends where
 nx:St->Hp->Prop
 rt:VK
 bk:St->Hp->Prop:=fun _ _=>False
 ct:St->Hp->Prop:=fun _ _=>False
abbrev TS:=Ends->St->Hp->Prop
def EP(X:Cx)(aa:Ψ)(σ:St)(Q:VK)(u:Value)(s':Shared):Prop:=∃v H',Inv X aa σ H' s'/\RelV v u/\Q v H'
def TP(X:Cx)(aa:Ψ)(σ:St)(Q:Bool->Hp->Prop)(b:Bool)(s':Shared):Prop:=∃H',Inv X aa σ H' s'/\Q b H'
def AP(X:Cx)(aa:Ψ)(σ:St)(Q:List V->Hp->Prop)(us:List Value)(s':Shared):Prop:=∃vs H',Inv X aa σ H' s'/\Vals vs us/\Q vs H'
def SP(X:Cx)(aa:Ψ)(D:Ends)(f:Flow)(s':Shared):Prop:=
 match f with
 |.next=>∃a H',Inv X aa a H' s'/\D.nx a H'
 |.brk=>∃a H',Inv X aa a H' s'/\D.bk a H'
 |.cont=>∃a H',Inv X aa a H' s'/\D.ct a H'
 |.ret u=>∃v a H',Inv X aa a H' s'/\RelV v u/\D.rt v H'
def PE(X:Cx)(e:Expr)(t:TE):Prop:=
 ∀(aa:Ψ)(s:Shared)(σ:St)(H:Hp)(Q:VK),Inv X aa σ H s->t σ H Q->wpAny (model X.prog X.w) X.A (eval e X.env) (EP X aa σ Q) X.xe s
def PT(X:Cx)(e:Expr)(t:TT):Prop:=
 ∀(aa:Ψ)(s:Shared)(σ:St)(H:Hp)(Q:Bool->Hp->Prop),Inv X aa σ H s->t σ H Q->wpAny (model X.prog X.w) X.A (isTrue e X.env (eval e X.env)) (TP X aa σ Q) X.xe s
def PW(X:Cx)(e:Expr)(t:TT):Prop:=
 ∀(a:Sem Value)(aa:Ψ)(s:Shared)(σ:St)(H:Hp)(Q:Bool->Hp->Prop),Inv X aa σ H s->t σ H Q->wpAny (model X.prog X.w) X.A (isTrue e X.env a) (TP X aa σ Q) X.xe s
def PW.pt{X:Cx}{e:Expr}{t:TT}(h:PW X e t):PT X e t:=h _
def PA(X:Cx)(es:List Expr)(t:TA):Prop:=
 ∀(pos:Pos)(aa:Ψ)(s:Shared)(σ:St)(H:Hp)(Q:List V->Hp->Prop),Inv X aa σ H s->t σ H Q->wpAny (model X.prog X.w) X.A (spliced (backTo pos (starEach es X.env))) (AP X aa σ Q) X.xe s
def PS(X:Cx)(st:Stmt)(t:TS):Prop:=
 ∀(aa:Ψ)(s:Shared)(σ:St)(H:Hp)(D:Ends),Inv X aa σ H s->t D σ H->wpAny (model X.prog X.w) X.A (exec st X.env) (SP X aa D) X.xe s
def PSs(X:Cx)(st:List Stmt)(t:TS):Prop:=
 ∀(aa:Ψ)(s:Shared)(σ:St)(H:Hp)(D:Ends),Inv X aa σ H s->t D σ H->wpAny (model X.prog X.w) X.A (execs st X.env) (SP X aa D) X.xe s
def aT{b:Type}{t:Sem b}{Q c:b->Shared->Prop}{M:Model}{A:Around}{E:Ω}{s:Shared}(h:wpAny M A t Q E s)(d:∀a s,Q a s->c a s):wpAny M A t c E s:=wpAny_mono h d fun _ _ x=>x
section
variable{X:Cx}
def aw(i:Nat):TE:=fun σ H Q=>∃v,σ[i]?=some (some v)/\Q v H
def tC(v:V):TE:=fun _ H Q=>Q v H
def Ll{i:Nat}{x:Str}{pos:Pos}(f:X.N[i]?=some x)(g:pq X.env.scope x)(hd:(x==("__debug__":Str))=false:=by decide)(j:(x==("__classdict__":Str))=false:=by decide):PE X (.Name x pos) (aw i):=by
 intro aa s σ H Q I h;obtain⟨v,e,h⟩:=h;obtain⟨m,hn,b⟩:=I.loc;obtain⟨u,r,l⟩:=b i x v f e g;have fin:EP X aa σ Q u s:=⟨v,H,I,r,h⟩;rcases l with ⟨hk,d⟩|⟨hk,c,hc,a⟩
 ·exact wpAny_Name (wpAny_loadName_local I.ok.kind hk hn d fin) hd
 ·rcases hk with hk|hk
  ·exact wpAny_Name (wpAny_loadName_cell I.ok.kind hk hc a fin) hd
  ·exact wpAny_Name (wpAny_loadName_free I.ok.kind hk hc a fin j) hd
def zd{i j pos}:PE X (.Constant (.int i) j pos) (tC (.int i)):=fun _ _ _ H _ I h=>wpAny_Constant_int ⟨.int i,H,I.tok _,⟨_,rfl⟩,h⟩
def mE{b j pos}:PE X (.Constant (.bool b) j pos) (tC (.bl b)):=fun _ _ _ H _ I h=>Constant_bool ⟨.bl b,H,I,rfl,h⟩
def Lm{j pos}:PE X (.Constant .none j pos) (tC .non):=fun _ _ _ H _ I h=>Constant_none ⟨.non,H,I,rfl,h⟩
def pe_str{x j pos}:PE X (.Constant (.str x) j pos) (tC (.str x)):=fun _ _ _ H _ I h=>Calls.Constant_str ⟨.str x,H,I.tok _,⟨_,rfl⟩,h⟩
def Gl(X:Cx)(x:Str):Prop:=X.env.kindOf x=some .globalImplicit
def w_{E:Ω}{aa:Ψ}{s:Shared}{σ:St}{H:Hp}{x:Str}{u:Value}{pos:Pos}{Q:Ω}(I:Inv X aa σ H s)(hg:Gl X x)(a:X.mg x=some u)(h:Q u s)(hd:(x==("__debug__":Str))=false:=by decide):wpAny (model X.prog X.w) X.A (eval (.Name x pos) X.env) Q E s:=
 Calls.Name_function_global I.ok.kind hg (Calls.loadGlobal_global (by rw[I.ok.glob];exact I.mod.glob.keeps I.bk) a h) hd
def iP{E:Ω}{aa:Ψ}{s:Shared}{σ:St}{H:Hp}{x:Str}{u:Value}{pos:Pos}{Q:Ω}(I:Inv X aa σ H s)(hg:Gl X x)(a:X.mg x=none)(b:A4 x=some u)(h:Q u s)(hn:x≠"__name__":=by decide)(hd:(x==("__debug__":Str))=false:=by decide):wpAny (model X.prog X.w) X.A (eval (.Name x pos) X.env) Q E s:=by
 obtain⟨c,h1,h2⟩:=I.mod.blt;exact Calls.Name_function_global I.ok.kind hg (Calls.loadGlobal_builtin (by rw[I.ok.glob];exact I.mod.glob.keeps I.bk) a (by rw[I.ok.blt];exact h1.keeps I.bk) ((h2 x hn).trans b) h) hd
def ib{x:Str}{v:V}{u:Value}{pos:Pos}(hg:Gl X x)(a:X.mg x=some u)(r:RelV v u)(hd:(x==("__debug__":Str))=false:=by decide):PE X (.Name x pos) (tC v):=
 fun _ _ _ H _ I h=>w_ I hg a ⟨v,H,I,r,h⟩ hd
def xh{x:Str}{v:V}{u:Value}{pos:Pos}(hg:Gl X x)(a:X.mg x=none)(b:A4 x=some u)(r:RelV v u)(hn:x≠"__name__":=by decide)(hd:(x==("__debug__":Str))=false:=by decide):PE X (.Name x pos) (tC v):=
 fun _ _ _ H _ I h=>iP I hg a b ⟨v,H,I,r,h⟩ hn hd
variable{a b:Expr}{ta tb:TE}{pos:Pos}
def PC(X:Cx)(e:CmpOp)(a b:Expr)(t:TE):Prop:=
 ∀(aa:Ψ)(s:Shared)(σ:St)(H:Hp)(Q:VK),Inv X aa σ H s->t σ H Q->
  wpAny (model X.prog X.w) X.A (eval a X.env) (fun v c=>wpAny (model X.prog X.w) X.A (eval b X.env) (fun u d=>wpAny (model X.prog X.w) X.A (compareOp e v u) (EP X aa σ Q) X.xe d) X.xe c) X.xe s
def gq(b:Expr){a:CmpOp}(h:a≠.In)(h2:a≠.NotIn):behindInMarks a b=false:=by
 have e1:(a==CmpOp.In)=false:=by cases a<;>first|rfl|exact absurd rfl h
 have e2:(a==CmpOp.NotIn)=false:=by cases a<;>first|rfl|exact absurd rfl h2
 cases b<;>simp[behindInMarks,e1,e2]
def tB(t:TE):TT:=fun σ H Q=>t σ H fun x H1=>∃c,x=.bl c/\Q c H1
def Ln{e:CmpOp}{t:TE}(h:PC X e a b t)(h1:behindInMarks e b=false:=by first|exact gq _ ξ ξ|rfl):PT X (.Compare a [e] [b] pos) (tB t):=by
 intro aa s σ H Q I hw;refine wpAny_isTrue_Compare1 (aT (h aa s σ H _ I hw) fun v j h1=>aT h1 fun u l h2=>aT h2 fun c o ⟨x,H1,i,f,g⟩=>?_) h1;obtain⟨d,rfl,q⟩:=g;cases f;exact wpAny_truthy_bool ⟨H1,i,q⟩
def iQ{e:Expr}{t:TE}(h:PE X e t)(f:∀a,isTrue e X.env a=(do let v <-a;standAt e.pos;holding [v] (truthy v)):=by intro _;rfl):PT X e (tB t):=by
 intro aa s σ H Q I hw;refine isTrue_plain (aT (h aa s σ H _ I hw) fun v i ⟨x,H1,g,b,c⟩=>?_) (f _);obtain⟨d,rfl,q⟩:=c;cases b;exact wpAny_truthy_bool ⟨H1,g,q⟩
variable{tA jU:TT}{rest:List Expr}
def pu(t u:TT):TT:=fun σ H Q=>t σ H fun c H1=>if c=true then u σ H1 Q else Q false H1
def Lo(t u:TT):TT:=fun σ H Q=>t σ H fun c H1=>if c=true then Q true H1 else u σ H1 Q
def DS(t:TT):TT:=fun σ H Q=>t σ H fun c H1=>Q (!c) H1
def DT(b:PT X a tA):PW X (.BoolOp .And [a] pos) tA:=by
 intro d aa s σ H Q I h;refine isTrue_and (aT (b aa s σ H Q I h) fun c f e=>?_);cases c with
 |true=>exact isTrue_and_nil e
 |false=>exact e
def pB(b:PT X a tA):PW X (.BoolOp .Or [a] pos) tA:=by
 intro d aa s σ H Q I h;refine isTrue_or (aT (b aa s σ H Q I h) fun c f e=>?_);cases c with
 |false=>exact isTrue_or_nil e
 |true=>exact e
def DU(i:PT X a tA)(hb:PW X (.BoolOp .And (b::rest) pos) jU):PW X (.BoolOp .And (a::b::rest) pos) (pu tA jU):=by
 intro f aa s σ H Q I h;refine isTrue_and (aT (i aa s σ H _ I h) fun c g ⟨H1,e,d⟩=>?_);cases c with
 |true=>exact hb f aa g σ H1 Q e d
 |false=>exact⟨H1,e,d⟩
def mJ(i:PT X a tA)(hb:PW X (.BoolOp .Or (b::rest) pos) jU):PW X (.BoolOp .Or (a::b::rest) pos) (Lo tA jU):=by
 intro f aa s σ H Q I h;refine isTrue_or (aT (i aa s σ H _ I h) fun c g ⟨H1,e,d⟩=>?_);cases c with
 |true=>exact⟨H1,e,d⟩
 |false=>exact hb f aa g σ H1 Q e d
def jJ(b:PT X a tA):PT X (.UnaryOp .Not a pos) (DS tA):=by
 intro aa s σ H Q I h;exact isTrue_not (b aa s σ H (fun c H1=>Q (!c) H1) I h)
def Lp(ta tb:TE):TE:=fun σ H Q=>ta σ H fun x H1=>∃c,x=.bl c/\if c=true then tb σ H1 Q else Q (.bl false) H1
def Lq(ta:TE):TE:=fun σ H Q=>ta σ H fun x H1=>∃c,x=.bl c/\Q (.bl (!c)) H1
def mK{op}{t:TE}(h:PE X a t):PE X (.BoolOp op [a] pos) t:=fun aa s σ H Q I hw=>BoolOp_one (h aa s σ H Q I hw)
def kf(i:PE X a ta)(hb:PE X (.BoolOp .And (b::rest) pos) tb):PE X (.BoolOp .And (a::b::rest) pos) (Lp ta tb):=by
 intro aa s σ H Q I h;refine BoolOp_and (aT (i aa s σ H _ I h) fun v f ⟨x,H1,e,g,d⟩=>?_);obtain⟨c,rfl,d⟩:=d;cases g;refine wpAny_truthy_bool ?_;cases c with
 |true=>exact hb aa f σ H1 Q e d
 |false=>exact⟨.bl false,H1,e,rfl,d⟩
def Lr(e:PE X a ta):PE X (.UnaryOp .Not a pos) (Lq ta):=by
 intro aa s σ H Q I h;refine UnaryOp_ (aT (e aa s σ H _ I h) fun v g ⟨x,H1,f,d,b⟩=>?_);obtain⟨c,rfl,b⟩:=b;cases d;exact not_of (wpAny_truthy_bool ⟨.bl (!c),H1,f,rfl,b⟩)
def Ls(t:TT)(ta tb:TE):TE:=fun σ H Q=>t σ H fun c H1=>if c=true then ta σ H1 Q else tb σ H1 Q
def xn{c:Expr}(hc:PT X c tA)(i:PE X a ta)(hb:PE X b tb):PE X (.IfExp c a b pos) (Ls tA ta tb):=by
 intro aa s σ H Q I h;refine wpAny_IfExp (aT (hc aa s σ H _ I h) fun d e ⟨H1,g,f⟩=>?_);cases d with
 |true=>exact i aa e σ H1 Q g f
 |false=>exact hb aa e σ H1 Q g f
end
def SqL(K:Af)(H:Hp)(a:Addr)(xs:List V):Prop:=
 Rd H a (.lst xs) \/
  ∃(o:Obj)(ad:Array Value)(n:Nat),K.lookup a=some o/\o.cls=.type "list"/\o.dict=none/\o.data=.seq ad n/\ad.size<=sizeLine/\Vals xs ad.toList
def SqT(K:Af)(H:Hp)(a:Addr)(xs:List V):Prop:=
 Rd H a (.tup xs) \/
  ∃(o:Obj)(ad:Array Value)(n:Nat),K.lookup a=some o/\o.cls=.type "tuple"/\o.data=.seq ad n/\ad.size<=sizeLine/\Vals xs ad.toList
def DW:Value->Option V
 |.none=>some .non
 |.bool b=>some (.bl b)
 |.int i _=>some (.int i)
 |.str x _=>some (.str x)
 |.bytes b _=>some (.byt b)
 |.float b _=>some (.flt b)
 |.ref a=>some (.ref a)
 |.type n=>some (.ty n)
 |_=>none
def RelV.abs{x:V}{u:Value}(r:RelV x u):DW u=some x:=by
 cases x with
 |non=>cases r;rfl
 |bl _=>cases r;rfl
 |int _=>obtain⟨t,rfl⟩:=r;rfl
 |str _=>obtain⟨t,rfl⟩:=r;rfl
 |byt _=>obtain⟨t,rfl⟩:=r;rfl
 |flt _=>obtain⟨t,rfl⟩:=r;rfl
 |ref _=>cases r;rfl
 |ty _=>cases r;rfl
def RelV.inj{x y:V}{u:Value}(r:RelV x u)(q:RelV y u):x=y:=AS (r.abs.symm.trans q.abs)
def Vals.inj{xs ys:List V}{us:List Value}(h:Vals xs us)(g:Vals ys us):xs=ys:=by
 induction h generalizing ys with
 |nil=>cases g;rfl
 |cons r t ih=>cases g with|cons r' t'=>rw[r.inj r',ih t']
section
variable{X:Cx}{aa:Ψ}{σ:St}{H:Hp}{s:Shared}{a:Addr}{xs ys:List V}
def SqL.of{K:Af}(h:H a=some (.lst xs)):SqL K H a xs:=.inl (.inl h)
def SqT.of{K:Af}(h:H a=some (.tup xs)):SqT K H a xs:=.inl (.inl h)
def Inv.list(I:Inv X aa σ H s)(h:SqL X.K H a xs):∃ad:List Value,Vals xs ad/\PlainL s.heap a ad.toArray/\xs.length<=sizeLine:=by
 rcases h with h|⟨o,ad,n,hk,hc,hd,b,hz,r⟩
 ·obtain⟨z,ad,n,r,e⟩:=h.ok I.hok
  exact⟨ad,r,⟨_,n,e,rfl,rfl,rfl⟩,z⟩
 ·refine⟨ad.toList,r,⟨o,n,I.kIn a o hk,hc,hd,by simpa using b⟩,?_⟩
  have e:=r.length;simp only[Array.length_toList] at e;(first|lia|omega)
def Inv.tuple(I:Inv X aa σ H s)(h:SqT X.K H a xs):∃ad:List Value,Vals xs ad/\IsTup s.heap a ad.toArray/\xs.length<=sizeLine:=by
 rcases h with h|⟨o,ad,n,hk,hc,b,hz,r⟩
 ·obtain⟨z,ad,r,p⟩:=h.ok I.hok
  exact⟨ad,r,p,z⟩
 ·refine⟨ad.toList,r,⟨o,I.kIn a o hk,hc,n,by simpa using b⟩,?_⟩
  have e:=r.length;simp only[Array.length_toList] at e;(first|lia|omega)
def Inv.list_inj(I:Inv X aa σ H s)(h:SqL X.K H a xs)(h':SqL X.K H a ys):xs=ys:=by
 obtain⟨ad,r,⟨o,n,e,_,_,d⟩,_⟩:=I.list h;obtain⟨its',c,⟨o',f,b,_,_,d'⟩,_⟩:=I.list h';rw[e] at b;cases b;rw[d] at d';injection d' with d1 _
 have:ad=its':=by simpa using congrArg Array.toList d1
 subst this;exact r.inj c
def Inv.tuple_inj(I:Inv X aa σ H s)(h:SqT X.K H a xs)(h':SqT X.K H a ys):xs=ys:=by
 obtain⟨ad,r,⟨o,e,_,n,d⟩,_⟩:=I.tuple h;obtain⟨its',c,⟨o',b,_,f,d'⟩,_⟩:=I.tuple h';rw[e] at b;cases b;rw[d] at d';injection d' with d1 _
 have:ad=its':=by simpa using congrArg Array.toList d1
 subst this;exact r.inj c
end
abbrev Cx.wish(X:Cx)(E:Ω):Cx:={X with xe:=E}
abbrev Cx.nox(X:Cx):Cx:=X.wish fun _ _=>False
def Cx.Ok.wish{X:Cx}(ok:X.Ok)(E:Ω):(X.wish E).Ok:=
 ⟨ok.mod,ok.kind,ok.glob,ok.blt,ok.above,ok.inj,ok.has,ok.cab,ok.hd,ok.frames,ok.stk,ok.exf,ok.bs,ok.bsz,ok.noex,ok.exfs,ok.funs,ok.frf⟩
def Cx.Ok.unwish{X:Cx}{E:Ω}(ok:(X.wish E).Ok):X.Ok:=
 ⟨ok.mod,ok.kind,ok.glob,ok.blt,ok.above,ok.inj,ok.has,ok.cab,ok.hd,ok.frames,ok.stk,ok.exf,ok.bs,ok.bsz,ok.noex,ok.exfs,ok.funs,ok.frf⟩
section
variable{X:Cx}{aa:Ψ}{σ:St}{H:Hp}{s:Shared}{E:Ω}
def Inv.wish(I:Inv X aa σ H s)(E:Ω):Inv (X.wish E) aa σ H s:=⟨I.ok.wish E,I.os,I.bare,I.base,I.loc,I.cell,I.free,I.freeC,I.pin,I.hok,I.len⟩
def Inv.unwish(I:Inv (X.wish E) aa σ H s):Inv X aa σ H s:=⟨I.ok.unwish,I.os,I.bare,I.base,I.loc,I.cell,I.free,I.freeC,I.pin,I.hok,I.len⟩
def SP.unwish{D:Ends}{f:Flow}{s':Shared}(h:SP (X.wish E) aa D f s'):SP X aa D f s':=by
 cases f with
 |next=>obtain⟨a,H',I,q⟩:=h;exact⟨a,H',I.unwish,q⟩
 |brk=>obtain⟨a,H',I,q⟩:=h;exact⟨a,H',I.unwish,q⟩
 |cont=>obtain⟨a,H',I,q⟩:=h;exact⟨a,H',I.unwish,q⟩
 |ret u=>obtain⟨v,a,H',I,r,q⟩:=h;exact⟨v,a,H',I.unwish,r,q⟩
def PSs.nox{st:List Stmt}{t:TS}(h:PSs X.nox st t):PSs X st t:=fun aa s σ H D I hw=>
 wpAny_mono (h aa s σ H D (I.wish _) hw) (fun _ _ q=>q.unwish) fun _ _ z=>False.elim z
end
section
variable{X:Cx}{st:Stmt}{rest:List Stmt}{t u:TS}{e:Expr}{te:TE}{pos:Pos}
def Lu:TS:=fun D σ H=>D.nx σ H
def pN(t u:TS):TS:=fun D σ H=>t {D with nx:=u D} σ H
def zL:PSs X [] Lu:=fun _ _ σ H _ I h=>wpAny_execs_nil ⟨σ,H,I,h⟩
def zb(h1:PS X st t)(h2:PSs X rest u):PSs X (st::rest) (pN t u):=by
 intro aa s σ H D I h;refine wpAny_execs_cons (aT (h1 aa s σ H {D with nx:=u D} I h) fun f a q=>?_);cases f with
 |next=>
  obtain⟨b,H',c,q⟩:=q;exact h2 aa a b H' D c q
 |ret v=>exact q
 |brk=>exact q
 |cont=>exact q
def zg(h1:PS X st t):PSs X [st] t:=by
 intro aa s σ H D I h;refine wpAny_execs_cons (aT (h1 aa s σ H D I h) fun f a q=>?_);cases f with
 |next=>exact wpAny_execs_nil q
 |ret v=>exact q
 |brk=>exact q
 |cont=>exact q
def Inv.quiet{aa:Ψ}{σ:St}{H:Hp}{s:Shared}(I:Inv X aa σ H s):interactive X.env=false:=by simp[interactive,I.ok.kind]
def Lv(te:TE):TS:=fun D σ H=>te σ H fun _ H1=>D.nx σ H1
def mO(b:PE X e te)(c:swapsWith e none pos.line X.env=pure false:=by rfl):PS X (.Expr e pos) (Lv te):=by
 intro aa s σ H D I h;exact wpAny_Expr_any (aT (b aa s σ H _ I h) fun v f ⟨x,H1,d,g,a⟩=>⟨σ,H1,d,a⟩) I.quiet c
def DX(te:TE):TS:=fun D σ H=>te σ H D.rt
def zq(c:PE X e te):PS X (.Return (some e) pos) (DX te):=by
 intro aa s σ H D I h;exact wpAny_Return_some (aT (c aa s σ H _ I h) fun v f ⟨x,H1,d,a,b⟩=>⟨x,σ,H1,d,a,b⟩)
def DY(c:TT)(t u:TS):TS:=fun D σ H=>c σ H fun b H1=>if b=true then t D σ H1 else u D σ H1
def cT{c:Expr}{a b:List Stmt}{tc:TT}(hc:PT X c tc)(i:PSs X a t)(hb:PSs X b u):PS X (.If c a b pos) (DY tc t u):=by
 intro aa s σ H D I h;refine wpAny_If (aT (hc aa s σ H _ I h) fun d e ⟨H1,g,f⟩=>?_);cases d with
 |true=>exact i aa e σ H1 D g f
 |false=>exact hb aa e σ H1 D g f
def Lw:TS:=fun _ _ _=>False
def GV{a:List Stmt}:PSs X a Lw:=fun _ _ _ _ _ _ h=>h.elim
end
abbrev TG:=V->St->Hp->(St->Hp->Prop)->Prop
abbrev kg:=List V->St->Hp->(St->Hp->Prop)->Prop
def PG(X:Cx)(b:Expr)(t:TG):Prop:=
 ∀(aa:Ψ)(s:Shared)(σ:St)(H:Hp)(v:V)(u:Value)(Q:St->Hp->Prop),Inv X aa σ H s->RelV v u->t v σ H Q->
  wpAny (model X.prog X.w) X.A (assign b X.env u) (fun _ s'=>∃a H',Inv X aa a H' s'/\Q a H') X.xe s
def xt(X:Cx)(b:List Expr)(t:kg):Prop:=
 ∀(aa:Ψ)(s:Shared)(σ:St)(H:Hp)(vs:List V)(us:List Value)(Q:St->Hp->Prop),Inv X aa σ H s->Vals vs us->t vs σ H Q->
  wpAny (model X.prog X.w) X.A (assignInOrder ((assignEach b X.env).map (·.2)) us) (fun _ s'=>∃a H',Inv X aa a H' s'/\Q a H') X.xe s
abbrev ki:=V->V->V->Hp->(Hp->Prop)->Prop
def pP(X:Cx)(t:ki):Prop:=
 ∀(aa:Ψ)(s:Shared)(σ:St)(H:Hp)(o i v:V)(a b u:Value)(Q:Hp->Prop),Inv X aa σ H s->RelV o a->RelV i b->RelV v u->t o i v H Q->
  wpAny (model X.prog X.w) X.A (setItem a b u) (fun _ s'=>∃H',Inv X aa σ H' s'/\Q H') X.xe s
section
variable{X:Cx}{pos:Pos}
def zH(i:Nat):TG:=fun v σ H Q=>Q (σ.set i (some v)) H
def zl{i:Nat}{x:Str}(a:X.N.Nodup)(hi:X.N[i]?=some x)(hx:Loc X.env.scope x)(b:X.fn x=true\/X.env.scope.names.lookup x=some .local:=by first|exact .inl rfl|exact .inr rfl|assumption):PG X (.Name x pos) (zH i):=by
 intro aa s σ H v u Q I r h;exact wpAny_assign_Name (mC I a hi hx r (fun s' c=>⟨_,H,c,h⟩) b)
def cv:kg:=fun vs σ H Q=>vs=[]/\Q σ H
def cz(t:TG)(u:kg):kg:=fun vs σ H Q=>∃v r,vs=v::r/\t v σ H fun a H'=>u r a H' Q
def jK:xt X [] cv:=by
 intro aa s σ H vs us Q I r h;obtain⟨e,h⟩:=h;subst e;cases r;exact assignInOrder_nil ⟨σ,H,I,h⟩
def zM{e:Expr}{es:List Expr}{t:TG}{u:kg}(h1:PG X e t)(h2:xt X es u)(d:(assignEach (e::es) X.env).map (·.2)=assign e X.env::(assignEach es X.env).map (·.2):=by rfl):xt X (e::es) (cz t u):=by
 intro aa s σ H vs us Q I r h;obtain⟨v,g,e1,h⟩:=h;subst e1;cases r with
 |cons r rr=>
  rw[d];refine assignInOrder_cons (aT (h1 aa s σ H _ _ _ I r h) fun _ a ⟨b,H1,f,c⟩=>?_);exact h2 aa a b H1 _ _ Q f rr c
def cw(K:Af)(n:Nat)(t:kg):TG:=fun v σ H Q=>∃a xs,v=.ref a/\SqT K H a xs/\xs.length=n/\t xs σ H Q
def jM{es:List Expr}{k:Nat}{t:kg}{n:Nat}(hc:X.calm=true)(h:xt X es t)(hn:(assignEach es X.env).length=n:=by rfl)(g:(assignEach es X.env).findIdx? (·.1)=none:=by rfl):PG X (.Tuple es k pos) (cw X.K n t):=by
 intro aa s σ H v u Q I r hw;obtain⟨a,xs,e1,hq,d,hw⟩:=hw;subst e1;cases r;obtain⟨ad,c,f,hz⟩:=I.tuple hq;refine assign_Tuple_tuple (I.ok.hd hc) f (by simp[hn,<-d,c.length]) g fun h' hx=>?_;have i:Inv X aa σ H {s with heap:=h'}:=I.kept (t':=s.toks) fun b o e=>hx b o (Az (Ar e)) e;exact h aa _ σ H xs _ Q i (by simpa using c) hw
def DZ(to a:TE)(t:ki):TG:=fun v σ H Q=>to σ H fun o H1=>a σ H1 fun i H2=>t o i v H2 fun b=>Q σ b
def jO{o i:Expr}{to c:TE}{t:ki}(q:PE X o to)(hi:PE X i c)(w:pP X t)(z:∀v,assign (.Subscript o i pos) X.env v=(do
   let a <-holding [v] (eval o X.env)
   let b <-holding [v,a] (eval i X.env)
   standAt pos
   holding [v,a,b] (setItem a b v)
   release [v,a,b] []):=by intro _;rfl):PG X (.Subscript o i pos) (DZ to c t):=by
 intro aa s σ H v u Q I r h;rw[z];refine Ad (wpAny_holding (aT (q aa s σ H _ I h) fun a d ⟨x,H1,A,e,f⟩=>?_));refine Ad (wpAny_holding (aT (hi aa d σ H1 _ A f) fun b g ⟨y,H2,C,j,l⟩=>?_));refine Ad (wpAny_standAt (Ad (wpAny_holding (aT (w aa g σ H2 x y v a b u _ C e j r l) fun _ F ⟨D,E,p⟩=>?_))));exact wpAny_release ⟨σ,D,E,p⟩
def ee(te:TE)(g:TG):TS:=fun D σ H=>te σ H fun x H1=>g x σ H1 D.nx
def jP{tg e:Expr}{te:TE}{g:TG}(d:PE X e te)(hg:PG X tg g)(f:swapsWithSole [tg] e pos.line X.env=pure false:=by rfl)(hw:swappedStores [tg] e X.env=pure none:=by rfl)(h1:(assignEach [tg] X.env).map (·.2)=[assign tg X.env]:=by rfl):PS X (.Assign [tg] e pos) (ee te g):=by
 intro aa s σ H D I h;refine wpAny_Assign_stores (aT (d aa s σ H _ I h) fun v a ⟨x,H1,i,b,c⟩=>?_) f hw;rw[h1];exact aT (hg aa a σ H1 x v _ i b c) fun _ j q=>q
def zj{i:Nat}{x:Str}{e:Expr}{te:TE}{aC:Pos}(c:X.N.Nodup)(hi:X.N[i]?=some x)(hx:Loc X.env.scope x)(d:PE X e te)(f:swapsWith e (some (.Name x aC)) pos.line X.env=pure false:=by rfl)(g:X.fn x=true\/X.env.scope.names.lookup x=some .local:=by first|exact .inl rfl|exact .inr rfl|assumption):PS X (.Assign [.Name x aC] e pos) (ee te (zH i)):=by
 intro aa s σ H D I h;refine wpAny_Assign_Name (aT (d aa s σ H _ I h) fun v o ⟨y,H1,j,a,b⟩=>?_) f;exact mC j c hi hx a (fun p l=>⟨_,H1,l,b⟩) g
def D0(i j:Nat)(ta:TA):TS:=fun D σ H=>ta σ H fun vs H1=>∃v w,vs=[v,w]/\D.nx ((σ.set i (some v)).set j (some w)) H1
def Lx{i j:Nat}{x y:Str}{a b:Expr}{ta:TA}{l r pt:Pos}{kt k2 pt2}(hc:X.calm=true)(u:X.N.Nodup)(hi:X.N[i]?=some x)(J:X.N[j]?=some y)(L:i≠j)(hx:X.env.scope.names.lookup x=some .local)(hy:X.env.scope.names.lookup y=some .local)(M:PA X [a,b] ta)(hw:swappedStores [.Tuple [.Name x l,.Name y r] kt pt] (.Tuple [a,b] k2 pt2) X.env=pure (some [x,y]))(O:swapsWithSole [.Tuple [.Name x l,.Name y r] kt pt] (.Tuple [a,b] k2 pt2) pos.line X.env=pure false:=by rfl):PS X (.Assign [.Tuple [.Name x l,.Name y r] kt pt] (.Tuple [a,b] k2 pt2) pos) (D0 i j ta):=by
 intro aa s σ H D I h;rw[exec_Assign_arm];refine Ad (wpAny_standAt ?_);rw[O];refine Ad (Ao ?_);rw[if_neg ξ];refine Ad (Tuple_ (aT (M _ aa s σ H _ I h) fun us c ⟨vs,H1,I1,C,g⟩=>?_));obtain⟨v,w,e1,g⟩:=g;subst e1;obtain⟨d,f,rfl,F,G⟩:∃d f,us=[d,f]/\RelV v d/\RelV w f:=by
  cases C with
  |cons p q=>
   cases q with
   |cons p' q'=>
    cases q';exact⟨_,_,rfl,p,p'⟩
 refine wpAny_newObj_type ?_ (by show 2<=sizeLine;decide);have I2:Inv X aa σ H1 {c with heap:=c.heap.push {cls:=.type "tuple",data:=.seq [d,f].toArray}}:=I1.kept (t':=c.toks) fun b o e=>Ai _ e;rw[hw];refine Ad (Ao ?_);show wpAny (model X.prog X.w) X.A (do rule "assign.swapped-stores";let items <-unpackItems (.ref c⁻¹) 2 none;assignInOrder [fun v=>bindName X.env y v,fun v=>bindName X.env x v] items.reverse;pure Flow.next) _ _ _;refine Ad (wpAny_rule (Ad (unpackItems_tuple (items:=#[d,f]) (I.ok.hd hc) (IsTup.new c.heap _) fun h' E=>?_)));have Q:=I2.kept (h':=h') (t':=c.toks) fun b o e=>E b o (Az (Ar e)) e;show wpAny _ _ (assignInOrder [fun v=>bindName X.env y v,fun v=>bindName X.env x v] [f,d] >>= fun _=>pure Flow.next) _ _ _;refine Ad (assignInOrder_cons (wpAny_bindName (mC Q u J (.inl hy) G (fun S P=>?_) (.inr hy))));refine assignInOrder_cons (wpAny_bindName (mC P u hi (.inl hx) F (fun T z=>assignInOrder_nil (Ao ?_)) (.inr hx)));rw[List.set_comm _ _ (Ne.symm L)] at z;exact⟨_,H1,z,g⟩
def Ly(c:TT)(tb:TS):TS:=fun D σ H=>∃W:Nat->St->Hp->Prop,(∃m,W m σ H)/\∀m σ H,W m σ H->
 c σ H fun b H1=>if b=true then ∃N:St->Hp->Prop,(∀a H',N a H'->∃d,d<m/\W d a H')/\tb {D with nx:=N,ct:=N,bk:=D.nx} σ H1 else D.nx σ H1
def pQ{c:Expr}{x:List Stmt}{tc:TT}{tb:TS}(hp:PassesOwn (model X.prog X.w) X.A X.env X.xe)(hc:PT X c tc)(hb:PSs X x tb):PS X (.While c x [] pos) (Ly tc tb):=by
 intro aa s σ H D I h;obtain⟨W,⟨C,E⟩,turn⟩:=h;refine wpAny_While (codeAny_whileLoop (fun n s'=>∃r H',Inv X aa r H' s'/\W n r H') ?_ C ⟨σ,H,I,E⟩);rintro n F ⟨i,H1,J,G⟩;refine wpAny_passesOwn hp (aT (hc aa F i H1 _ J (turn n i H1 G)) fun b z ⟨H2,y,e⟩=>?_);cases b with
 |true=>
  obtain⟨N,u,e⟩:=e;rw[if_pos rfl];refine wpAny_passesOwn hp (aT (hb aa z i H2 _ y e) fun f L g=>?_);cases f with
  |next=>
   obtain⟨a,d,q,j⟩:=g;obtain⟨l,o,p⟩:=u a d j;exact⟨l,o,a,d,q,p⟩
  |cont=>
   obtain⟨a,d,q,j⟩:=g;obtain⟨l,o,p⟩:=u a d j;exact⟨l,o,a,d,q,p⟩
  |brk=>exact g
  |ret v=>exact g
 |false=>
  rw[if_neg Aw];exact wpAny_execs_nil ⟨i,H2,y,e⟩
end
structure It where
 go:Nat->Hp->Prop
 yld:Nat->Hp->V->Hp->Prop
 stop:Nat->Hp->Prop
def cb(X:Cx)(aa:Ψ)(H:Hp)(b:Addr):Prop:=
 H b=none/\b≠X.env.locals/\b∉X.fs/\(b∈X.ex\/X.s₀⁻¹<=b)/\(∀x c,X.env.cells.lookup x=some c->c≠b)/\∀p∈X.pn++aa,p.1≠b
def Inv.fpOk{X:Cx}{aa:Ψ}{σ:St}{H H':Hp}{s:Shared}{b:Addr}(I:Inv X aa σ H s)(hb:s⁻¹<=b)(hn:H' b=none):cb X aa H' b:=by
 refine⟨hn,Nat.ne_of_gt (Av I.lt hb),I.nofs hb,.inr (Ag I.sz hb),fun x c e z=>?_,fun p hp z=>?_⟩
 ·obtain⟨v,q⟩:=I.cell x c e
  exact absurd (Av q.lt (by rw[z];exact hb)) (Nat.lt_irrefl _)
 ·exact absurd (Av (Ar (I.pin p hp).1) (by rw[z];exact hb)) (Nat.lt_irrefl _)
structure Turn(P:Program)(w:World)(K:Af)(tg:Expr)(J:It)(fp:List Addr)(it:Addr)(tn:Nat->Heap->Prop):Prop where
 mem:it∈fp
 obj:∀i h,tn i h->∀b∈fp,∃o,h.get? b=some o/\∀v,o.data≠.cell v
 keep:∀i h h',tn i h->(∀b∈fp,∀o,h.get? b=some o->h'.get? b=some o)->tn i h'
 item:∀(X:Cx),X.prog=P->X.w=w->X.K=K->X.calm=true->∀(i:Nat)(aa:Ψ)(s:Shared)(σ:St)(H:Hp)(E:Ω),Inv X aa σ H s->(∀b∈fp,cb X aa H b)->tn i s.heap->J.go i H->
  wpAny (model P w) X.A (pyNext (.ref it)) (fun r s1=>∃u,r=some u/\
   wpAny (model P w) X.A (letOwnedTupleGo tg (.ref it) u) (fun _ s2=>∃x H',Inv X aa σ H' s2/\RelV x u/\J.yld i H x H'/\tn (i+1) s2.heap/\∀b∈fp,H' b=none) E s1) E s
 done:∀(X:Cx),X.prog=P->X.w=w->X.K=K->X.calm=true->∀(i:Nat)(aa:Ψ)(s:Shared)(σ:St)(H:Hp)(E:Ω),Inv X aa σ H s->(∀b∈fp,cb X aa H b)->tn i s.heap->J.stop i H->
  wpAny (model P w) X.A (pyNext (.ref it)) (fun r s1=>r=none/\Inv X aa σ H s1) E s
 self:∀(A:Around)(i:Nat)(s:Shared)(Q:Ω)(E:Ω),tn i s.heap->Q (.ref it) s->wpAny (model P w) A (pyIter (.ref it)) Q E s
abbrev TI:=St->Hp->(It->Hp->Prop)->Prop
def D3(X:Cx)(aa:Ψ)(σ:St)(tg:Expr)(R:It->Hp->Prop)(d:Value)(c:Shared):Prop:=
 ∃(it:Addr)(a:List Addr)(tn:Nat->Heap->Prop)(J:It)(H':Hp),d=.ref it/\Inv X aa σ H' c/\Turn X.prog X.w X.K tg J a it tn/\tn 0 c.heap/\(∀b∈a,cb X aa H' b)/\R J H'
def PI(X:Cx)(tg iter:Expr)(wi:TI):Prop:=
 ∀(aa:Ψ)(s:Shared)(σ:St)(H:Hp)(R:It->Hp->Prop),Inv X aa σ H s->wi σ H R->
  wpAny (model X.prog X.w) X.A (eval iter X.env) (fun v a=>wpAny (model X.prog X.w) X.A (pyIter v) (D3 X aa σ tg R) X.xe a) X.xe s
def D4{M:Model}{A:Around}{E:Ω}{s:Shared}{tg:Expr}{it:Addr}{u:Value}{o:Obj}{n:String}{vs:Array Value}{Q:Unit->Shared->Prop}(b:s.heap.get? it=some o)(hc:o.cls=.type n)(hd:o.data=.fields vs)(hn:["enumerate","zip","dict_itemiterator","dict_reverseitemiterator","odict_iterator","itertools.zip_longest","itertools.pairwise"].contains n=false)(a:Q () s):wpAny M A (letOwnedTupleGo tg (.ref it) u) Q E s:=by
 unfold letOwnedTupleGo;cases tg<;>first
  |exact Ao a
  |(cases u<;>first
    |exact Ao a
    |(refine Ad (wpAny_load b ?_);rw[hc,hd];show wpAny M A (if(["enumerate","zip","dict_itemiterator","dict_reverseitemiterator","odict_iterator","itertools.zip_longest","itertools.pairwise"].contains n&&vs[0]?==some (rawInt _))=true then _ else _) Q E s;rw[if_neg (by intro h;rw[hn,Bool.false_and] at h;cases h)];exact Ao a))
def dS(K:Af)(a:Addr):It:=
 ⟨fun i H=>∃xs x,SqL K H a xs/\xs[i]?=some x,fun i H x H'=>H'=H/\∀xs,SqL K H a xs->xs[i]?=some x,fun i H=>∃xs,SqL K H a xs/\xs.length<=i⟩
def eY(lo:Int)(n:Nat):It:=⟨fun i _=>i<n,fun i H x H'=>H'=H/\x=.int (lo+i),fun i _=>n<=i⟩
def xy{P:Program}{w:World}{K:Af}{tg:Expr}(a it:Addr):Turn P w K tg (dS K a) [it] it (fun i h=>h.IsListIter it a i) where
 mem:=by simp
 obj:=fun i h st b hb=>by
  have e:b=it:=by simpa using hb
  subst e;obtain⟨o,e,c,d⟩:=st;exact⟨o,e,fun v z=>by rw[d] at z;cases z⟩
 keep:=fun i h h' st k=>st.at fun o e=>k it (by simp) o e
 item:=by
  intro X g hw j hc i aa s σ H E I f st hg;subst g hw j;obtain⟨xs,x,hq,hx⟩:=hg;obtain⟨ad,l,p,hz⟩:=I.list hq;obtain⟨u,hu,G⟩:=l.get hx;obtain⟨q,f1,f2,r,y,A⟩:=f it (by simp);refine wpAny_pyNext_list_item st p.isList (x:=u) (by simpa using hu) fun h' C D=>?_;have J:Inv X aa σ H {s with heap:=h'}:=I.turned (t':=s.toks) (fun b o hb e=>(D.2 b hb).trans e) q f1 r y A;obtain⟨o,e,c,d⟩:=id C;exact⟨u,rfl,D4 (s:={s with heap:=h'}) e c d ξ ⟨x,H,J,G,⟨rfl,fun ys hy=>by rw[I.list_inj hy hq];exact hx⟩,C,fun b hb=>(f b hb).1⟩⟩
 done:=by
  intro X g hw j hc i aa s σ H E I f st hg;subst g hw j;obtain⟨xs,hq,hx⟩:=hg;obtain⟨ad,l,p,hz⟩:=I.list hq;obtain⟨q,f1,f2,r,y,A⟩:=f it (by simp);have L:=l.length;exact wpAny_pyNext_list_end (I.ok.hd hc) st p.isList (by simp;(first|lia|omega)) fun h' F=>⟨rfl,I.turned (t':=s.toks) (fun b o hb e=>F b o hb e) q f1 r y A⟩
 self:=fun _ _ _ _ _ st h=>wpAny_pyIter_listiter st h
def Lz{P:Program}{w:World}{K:Af}{tg:Expr}(it:Addr)(lo:Int)(n:Nat):Turn P w K tg (eY lo n) [it] it (fun i h=>IsRangeIter h it (lo+(i:Nat)*1) ((n:Int)-(i:Nat)) 1) where
 mem:=by simp
 obj:=fun i h st b hb=>by
  have e:b=it:=by simpa using hb
  subst e;exact⟨_,st,fun v z=>by
   have x:Data.fields _=Data.cell v:=z;cases x⟩
 keep:=fun i h h' st k=>k it (by simp) _ st
 item:=by
  intro X c hw d hc i aa s σ H E I a st hg;subst c hw d;obtain⟨f,f1,f2,g,j,l⟩:=a it (by simp);have W:=Walks.range (prog:=X.prog) (w:=X.w) (I.ok.hd hc) it lo 1 n;refine W.item i s _ _ hg st fun v h' tk q p r=>?_;obtain⟨t,rfl⟩:=q;have y:Inv X aa σ H {s with heap:=h',toks:=tk}:=I.turned (fun b o hb e=>r b o (by simpa using hb) e) f f1 g j l;refine⟨_,rfl,D4 (s:={s with heap:=h',toks:=tk}) (n:="range_iterator") p rfl rfl ξ ⟨.int (lo+i),H,y,⟨t,?_⟩,⟨rfl,rfl⟩,p,fun b hb=>(a b hb).1⟩⟩;rw[Int.mul_one]
 done:=by
  intro X c hw d hc i aa s σ H E I a st hg;subst c hw d;obtain⟨f,f1,f2,g,j,l⟩:=a it (by simp);exact wpAny_pyNext_range_end (I.ok.hd hc) st (by have:n<=i:=hg;(first|lia|omega)) fun h' u=>⟨rfl,I.turned (t':=s.toks) (fun b o hb e=>u b o hb e) f f1 g j l⟩
 self:=fun _ _ _ _ _ st h=>wpAny_pyIter_rangeiter st h
section
variable{X:Cx}{tg:Expr}
def GW(K:Af)(tl:TE):TI:=fun σ H R=>tl σ H fun x H1=>∃a,x=.ref a/\(∃xs,SqL K H1 a xs)/\R (dS K a) H1
def zF{l:Expr}{tl:TE}(g:PE X l tl):PI X tg l (GW X.K tl):=by
 intro aa s σ H R I h;refine aT (g aa s σ H _ I h) fun v c ⟨x,H1,I1,d,f⟩=>?_;obtain⟨a,e,⟨xs,hq⟩,q⟩:=f;subst e;cases d;obtain⟨ad,i,p,hz⟩:=I1.list hq;refine wpAny_pyIter_list p.isList ?_;refine⟨c⁻¹,[c⁻¹],_,_,H1,rfl,I1.kept (t':=c.toks) fun b o e=>Ai _ e,xy a _,⟨_,AK _ rfl,rfl,rfl⟩,fun b hb=>?_,q⟩;have e:b=c⁻¹:=by simpa using hb
 subst e;exact I1.fpOk (Ae _) (I1.hok.fresh (Ae _))
def GX{aa:Ψ}{σ:St}{H:Hp}{s:Shared}{R:It->Hp->Prop}{E:Ω}{lo hi:Int}{t u v:Tok}{tk:Nat}(I:Inv X aa σ H s)(h1:-(2 ^ 62)<=lo)(h2:lo<2 ^ 62)(a:-(2 ^ 62)<=hi)(c:hi<2 ^ 62)(q:R (eY lo (hi-lo).toNat) H):wpAny (model X.prog X.w) X.A (pyIter (.ref s⁻¹)) (D3 X aa σ tg R) E {s with heap:=s.heap.push {cls:=.type "range",data:=.fields #[.int lo t,.int hi u,.int 1 v]},toks:=tk}:=by
 refine wpAny_pyIter_range (IsRange.new ..) (small_one h1 h2 a c) ?_;have I1:Inv X aa σ H {s with heap:=s.heap.push {cls:=.type "range",data:=.fields #[.int lo t,.int hi u,.int 1 v]},toks:=tk}:=I.kept fun b o e=>Ai _ e;refine⟨(s.heap.push {cls:=.type "range",data:=.fields #[.int lo t,.int hi u,.int 1 v]}).objs.size,[(s.heap.push {cls:=.type "range",data:=.fields #[.int lo t,.int hi u,.int 1 v]}).objs.size],_,_,H,rfl,
  I1.kept (t':=tk) fun b o e=>Ai _ e,Lz _ lo (hi-lo).toNat,?_,fun b hb=>?_,q⟩
 ·have e1:lo+((0:Nat):Int)*1=lo:=by simp
  have e2:(((hi-lo).toNat:Nat):Int)-((0:Nat):Int)=Builtin.Range.rangeSize lo hi 1:=by rw[rangeSize_one];split<;>(first|lia|omega)
  show IsRangeIter _ _ (lo+((0:Nat):Int)*1) ((((hi-lo).toNat:Nat):Int)-((0:Nat):Int)) 1;rw[e1,e2];exact AK _ rfl
 ·have e:b=(s.heap.push {cls:=.type "range",data:=.fields #[.int lo t,.int hi u,.int 1 v]}).objs.size:=by simpa using hb
  subst e;exact I1.fpOk (Ae _) (I1.hok.fresh (Ae _))
def LA(ta:TA):TI:=fun σ H R=>ta σ H fun vs H1=>∃j:Int,vs=[.int j]/\-(2 ^ 62)<=j/\j<2 ^ 62/\R (eY 0 j.toNat) H1
def LB(ta:TA):TI:=fun σ H R=>ta σ H fun vs H1=>∃i j:Int,vs=[.int i,.int j]/\(-(2 ^ 62)<=i/\i<2 ^ 62/\-(2 ^ 62)<=j/\j<2 ^ 62)/\R (eY i (j-i).toNat) H1
def kn{a:Expr}{ta:TA}{p pos:Pos}(hg:Gl X "range")(f:X.mg "range"=none)(g:PA X [a] ta)(i:starEach [a] X.env=[(false,eval a X.env)]:=by rfl):PI X tg (.Call (.Name "range" p) [a] [] pos) (LA ta):=by
 intro aa s σ H R I h;refine Call_ (iP I hg f boot_range (PyProof.Rows.callWith_type1 (aT (g pos aa s σ H _ I h) fun us o ⟨vs,H1,l,c,b⟩=>?_) i rfl));obtain⟨j,e,b,d,q⟩:=b;subst e;cases c with
 |cons r rr=>
  cases rr;obtain⟨t,rfl⟩:=r;exact call_range_1 (GX l ω ω b d (by simpa using q))
def xB{a b:Expr}{ta:TA}{p pos:Pos}(hg:Gl X "range")(u:X.mg "range"=none)(v:PA X [a,b] ta)(w:starEach [a,b] X.env=[(false,eval a X.env),(false,eval b X.env)]:=by rfl)(d:starEach [b] X.env=[(false,eval b X.env)]:=by rfl):PI X tg (.Call (.Name "range" p) [a,b] [] pos) (LB ta):=by
 intro aa s σ H R I h;refine Call_ (iP I hg u boot_range (PyProof.Rows.callWith_type1 (aT (v pos aa s σ H _ I h) fun us y ⟨vs,H1,x,f,c⟩=>?_) (by rw[w,d]) (by rw[d];rfl)));obtain⟨i,j,e,⟨c,g,l,o⟩,q⟩:=c;subst e;cases f with
 |cons r rr=>
  cases rr with
  |cons r' rr=>
   cases rr;obtain⟨t,rfl⟩:=r;obtain⟨t',rfl⟩:=r';exact call_range_2 (GX x c g l o q)
def D6(wi:TI)(g:TG)(tb:TS):TS:=fun D σ H=>wi σ H fun J H1=>∃W:Nat->Nat->St->Hp->Prop,(∃m,W 0 m σ H1)/\∀i m σ H,W i m σ H->
 (J.stop i H/\D.nx σ H)\/(J.go i H/\∃N:St->Hp->Prop,(∀a H',N a H'->∃b,b<m/\W (i+1) b a H')/\∀x H',J.yld i H x H'->g x σ H' fun c H2=>tb {D with nx:=N,ct:=N,bk:=D.nx} c H2)
def pR(a:List Addr)(h:Heap):Ψ:=a.filterMap fun b=>(h.get? b).map fun o=>(b,o)
def xN{a:List Addr}{h:Heap}{b:Addr}{o:Obj}(hb:b∈a)(e:h.get? b=some o):(b,o)∈pR a h:=List.mem_filterMap.mpr ⟨b,hb,by rw[e];rfl⟩
def LC{a:List Addr}{h:Heap}{p:Addr×Obj}(hp:p∈pR a h):p.1∈a/\h.get? p.1=some p.2:=by
 obtain⟨b,hb,e⟩:=List.mem_filterMap.mp hp;cases q:h.get? b with
 |none=>rw[q] at e;cases e
 |some o=>
  rw[q] at e;have c:(b,o)=p:=AS e;subst c;exact⟨hb,q⟩
def Inv.pinned{aa:Ψ}{σ:St}{H:Hp}{s:Shared}{a:List Addr}(I:Inv X aa σ H s)(g:∀b∈a,cb X aa H b)(h:∀b∈a,∃o,s.heap.get? b=some o/\∀v,o.data≠.cell v):Inv X (aa++pR a s.heap) σ H s:=
 I.pins_of fun p hp=>(List.mem_append.mp hp).elim (fun z=>I.pin p (AE _ z)) fun z=>by
  obtain⟨hb,e⟩:=LC z;obtain⟨f,f1,f2,_⟩:=g p.1 hb;obtain⟨o,c,d⟩:=h p.1 hb;rw[e] at c;cases c;exact⟨e,f,f1,f2,d⟩
def Inv.unpinned{aa pl:Ψ}{σ:St}{H:Hp}{s:Shared}(I:Inv X (aa++pl) σ H s):Inv X aa σ H s:=I.pins_of fun p hp=>I.pin p (AE _ (A6 _ hp))
def fh{iter:Expr}{Q:List Stmt}{wi:TI}{g:TG}{tb:TS}{pos:Pos}(hp:PassesOwn (model X.prog X.w) X.A X.env X.xe)(hc:X.calm=true)(hi:PI X tg iter wi)(hg:PG X tg g)(hb:PSs X Q tb)(hs:∀x,foldedSetIterable iter X.env x=pure x:=by intro _;rfl):PS X (.For tg iter Q [] pos) (D6 wi g tb):=by
 intro aa s σ H D I h;refine wpAny_For (aT (hi aa s σ H _ I h) fun v s1 h1=>aT h1 fun mZ s2 h2=>?_) hs;obtain⟨it,y,tn,J,H2,e,I2,T,e8,f2,W,⟨m0,w0⟩,turn⟩:=h2;subst e;have c:∀{H':Hp},(∀b∈y,H' b=none)->∀b∈y,cb X aa H' b:=fun hn b hb=>⟨hn b hb,(f2 b hb).2⟩;refine codeAny_forLoop_any (fun n s'=>∃i z H',Inv X aa z H' s'/\tn i s'.heap/\(∀b∈y,H' b=none)/\W i n z H') ?_ m0 ⟨0,σ,H2,I2,e8,fun b hb=>(f2 b hb).1,w0⟩;rintro n M ⟨i,C,E,U,O,P,w3⟩;rcases turn i n C E w3 with ⟨stop,qn⟩|⟨go,N,hN,step⟩
 ·refine wpAny_passesOwn hp (aT (T.done X rfl rfl rfl hc i aa M C E X.xe U (c P) O stop) fun r Y ⟨hr,I4⟩=>?_)
  subst hr;exact wpAny_execs_nil ⟨C,E,I4,qn⟩
 ·refine wpAny_passesOwn hp (aT (T.item X rfl rfl rfl hc i aa M C E X.xe U (c P) O go) fun r Y ⟨u,hr,Z⟩=>?_)
  subst hr;refine wpAny_passesOwn hp (aT Z fun _ L ⟨x,S,I5,r5,y5,p,F⟩=>?_);have lG:=I5.pinned (c F) (T.obj _ _ p);refine wpAny_passesOwn hp (aT (hg _ L C S x u _ lG r5 (step x S y5)) fun _ s6 ⟨iX,H6,I6,q6⟩=>?_);refine wpAny_passesOwn hp (aT (hb _ s6 iX H6 _ I6 q6) fun f G l=>?_);have again:∀{a:St}{j:Hp},Inv X (aa++pR y L.heap) a j G->N a j->∃m,m<n/\∃i z H',Inv X aa z H' G/\tn i G.heap/\(∀b∈y,H' b=none)/\W i m z H':=fun{a j} I7 q=>by
   obtain⟨m',hm,w7⟩:=hN a j q;refine⟨m',hm,i+1,a,j,I7.unpinned,T.keep _ _ _ p fun b hb o e=>(I7.pin (b,o) (AE _ (AE _ (xN hb e)))).1,fun b hb=>?_,w7⟩;obtain⟨o,e,d⟩:=T.obj _ _ p b hb;exact(I7.pin (b,o) (AE _ (AE _ (xN hb e)))).2.1
  cases f with
  |next=>obtain⟨a,j,I7,q⟩:=l;exact again I7 q
  |cont=>obtain⟨a,j,I7,q⟩:=l;exact again I7 q
  |brk=>obtain⟨a,j,I7,l⟩:=l;exact⟨a,j,I7.unpinned,l⟩
  |ret v=>obtain⟨x7,a,j,I7,r7,l⟩:=l;exact⟨x7,a,j,I7.unpinned,r7,l⟩
end
def mS{K:Af}{a:Addr}{xs:List V}{g:TG}{tb:TS}{D:Ends}{σ:St}{H:Hp}(b:Nat->St->Hp->Prop)(l:b 0 σ H)(o:∀i σ H,i<=xs.length->b i σ H->SqL K H a xs)(r:∀i x σ H,xs[i]?=some x->b i σ H->g x σ H fun d H2=>tb {D with nx:=b (i+1),ct:=b (i+1),bk:=D.nx} d H2)(hd:∀σ H,b xs.length σ H->D.nx σ H):∃W:Nat->Nat->St->Hp->Prop,(∃m,W 0 m σ H)/\∀i m σ H,W i m σ H->
   ((dS K a).stop i H/\D.nx σ H)\/((dS K a).go i H/\∃N:St->Hp->Prop,(∀f H',N f H'->∃h,h<m/\W (i+1) h f H')/\∀x H',(dS K a).yld i H x H'->g x σ H' fun d H2=>tb {D with nx:=N,ct:=N,bk:=D.nx} d H2):=by
 refine⟨fun i m σ H=>m=xs.length-i/\i<=xs.length/\b i σ H,⟨xs.length,by simp,AB _,l⟩,?_⟩;rintro i m σ H ⟨rfl,hi,p⟩;have q:=o i σ H hi p
 by_cases c:i<xs.length
 ·refine .inr ⟨⟨xs,xs[i],q,by simp[c]⟩,b (i+1),fun f H' j=>⟨xs.length-(i+1),ω,rfl,c,j⟩,fun x H' y=>?_⟩
  obtain⟨e,y⟩:=y;subst e;exact r i x σ _ (y xs q) p
 ·have e:i=xs.length:=ω
  subst e;exact .inl ⟨⟨xs,q,Ae _⟩,hd σ H p⟩
def xS{lo:Int}{n:Nat}{g:TG}{tb:TS}{D:Ends}{σ:St}{H:Hp}(b:Nat->St->Hp->Prop)(j:b 0 σ H)(l:∀i σ H,i<n->b i σ H->g (.int (lo+i)) σ H fun c H2=>tb {D with nx:=b (i+1),ct:=b (i+1),bk:=D.nx} c H2)(hd:∀σ H,b n σ H->D.nx σ H):∃W:Nat->Nat->St->Hp->Prop,(∃m,W 0 m σ H)/\∀i m σ H,W i m σ H->
   ((eY lo n).stop i H/\D.nx σ H)\/((eY lo n).go i H/\∃N:St->Hp->Prop,(∀d H',N d H'->∃f,f<m/\W (i+1) f d H')/\∀x H',(eY lo n).yld i H x H'->g x σ H' fun c H2=>tb {D with nx:=N,ct:=N,bk:=D.nx} c H2):=by
 refine⟨fun i m σ H=>m=n-i/\i<=n/\b i σ H,⟨n,by simp,AB _,j⟩,?_⟩;rintro i m σ H ⟨rfl,hi,p⟩
 by_cases a:i<n
 ·refine .inr ⟨a,b (i+1),fun d H' h=>⟨n-(i+1),ω,rfl,a,h⟩,fun x H' y=>?_⟩
  obtain⟨e,y⟩:=y;subst e y;exact l i σ _ a p
 ·have e:i=n:=ω
  subst e;exact .inl ⟨Ae _,hd σ H p⟩
abbrev R2:=V->V->Hp->VK->Prop
def cx(X:Cx)(f:Value->Value->Sem Value)(r:R2):Prop:=
 ∀(aa:Ψ)(s:Shared)(σ:St)(H:Hp)(x y:V)(v u:Value)(Q:VK),Inv X aa σ H s->RelV x v->RelV y u->r x y H Q->
  wpAny (model X.prog X.w) X.A (f v u) (EP X aa σ Q) X.xe s
def D8(X:Cx)(f:Value->Sem Value)(r:V->Hp->VK->Prop):Prop:=
 ∀(aa:Ψ)(s:Shared)(σ:St)(H:Hp)(x:V)(v:Value)(Q:VK),Inv X aa σ H s->RelV x v->r x H Q->
  wpAny (model X.prog X.w) X.A (f v) (EP X aa σ Q) X.xe s
def fj(X:Cx)(f:Value)(r:List V->Hp->VK->Prop):Prop:=
 ∀(aa:Ψ)(s:Shared)(σ:St)(H:Hp)(xs:List V)(us:List Value)(Q:VK),Inv X aa σ H s->Vals xs us->r xs H Q->
  wpAny (model X.prog X.w) X.A (call f us) (EP X aa σ Q) X.xe s
def bI(r:R2)(ta tb:TE):TE:=fun σ H Q=>ta σ H fun x H1=>tb σ H1 fun y H2=>r x y H2 Q
def D9(r:V->Hp->VK->Prop)(ta:TE):TE:=fun σ H Q=>ta σ H fun x H1=>r x H1 Q
def rI(C:Int->Int->Prop)(g:Int->Int->V):R2:=fun x y H Q=>∃i j,x=.int i/\y=.int j/\C i j/\Q (g i j) H
def eO(g:Int->Int->V):R2:=fun x y H Q=>∃i j,x=.int i/\y=.int j/\Q (g i j) H
def rU(g:Int->V):V->Hp->VK->Prop:=fun x H Q=>∃i,x=.int i/\Q (g i) H
section
variable{X:Cx}{a b c:Expr}{ta tb tc:TE}{pos:Pos}
def kr(p:PE X a ta)(hb:PE X b tb){aa:Ψ}{s:Shared}{σ:St}{H:Hp}{R:V->V->Hp->Prop}(I:Inv X aa σ H s)(h:ta σ H fun x H1=>tb σ H1 fun y H2=>R x y H2){Q:Ω}{f:Value->Value->Sem Value}(q:∀v u c x y H2,Inv X aa σ H2 c->RelV x v->RelV y u->R x y H2->wpAny (model X.prog X.w) X.A (f v u) Q X.xe c):wpAny (model X.prog X.w) X.A (eval a X.env) (fun v d=>wpAny (model X.prog X.w) X.A (eval b X.env) (fun u e=>wpAny (model X.prog X.w) X.A (f v u) Q X.xe e) X.xe d) X.xe s:=by
 refine aT (p aa s σ H _ I h) fun v g ⟨x,H1,r,i,j⟩=>?_;refine aT (hb aa g σ H1 _ r j) fun u c ⟨y,H2,z,l,o⟩=>?_;exact q v u c x y H2 z i l o
def zt{c:Operator}{r:R2}(g:cx X (binaryOp c) r)(i:PE X a ta)(hb:PE X b tb):PE X (.BinOp a c b pos) (bI r ta tb):=by
 intro aa s σ H Q I h;exact wpAny_BinOp (kr i hb I h fun v u d x y H2 j e f q=>g aa d σ H2 x y v u Q j e f q)
def fS{b:UnaryOp}{r:V->Hp->VK->Prop}(f:D8 X (unaryOp b) r)(g:PE X a ta):PE X (.UnaryOp b a pos) (D9 r ta):=by
 intro aa s σ H Q I h;exact UnaryOp_ (aT (g aa s σ H _ I h) fun v c ⟨x,H1,i,d,e⟩=>f aa c σ H1 x v Q i d e)
def mT{f:Value->Value->Sem Value}{C:Int->Int->Prop}{g:Int->Int->Int}(rule:∀(i j:Int)(t u:Tok)(s:Shared)(Q:Ω)(E:Ω),C i j->Q (.int (g i j) s.toks) {s with toks:=s.toks+1}->wpAny (model X.prog X.w) X.A (f (.int i t) (.int j u)) Q E s):cx X f (rI C fun i j=>.int (g i j)):=by
 intro aa s σ H x y v u Q I a b h;obtain⟨i,j,rfl,rfl,hc,q⟩:=h;obtain⟨t,rfl⟩:=a;obtain⟨t',rfl⟩:=b;exact rule i j t t' s _ _ hc ⟨.int (g i j),H,I.tok _,⟨_,rfl⟩,q⟩
def pS{f:Value->Value->Sem Value}{g:Int->Int->Int}(rule:∀(i j:Int)(t u:Tok)(s:Shared)(Q:Ω)(E:Ω),Q (.int (g i j) s.toks) {s with toks:=s.toks+1}->wpAny (model X.prog X.w) X.A (f (.int i t) (.int j u)) Q E s):cx X f (eO fun i j=>.int (g i j)):=by
 intro aa s σ H x y v u Q I a b h;obtain⟨i,j,rfl,rfl,q⟩:=h;obtain⟨t,rfl⟩:=a;obtain⟨t',rfl⟩:=b;exact rule i j t t' s _ _ ⟨.int (g i j),H,I.tok _,⟨_,rfl⟩,q⟩
def iR{f:Value->Value->Sem Value}{g:Int->Int->Bool}(rule:∀(i j:Int)(t u:Tok)(s:Shared)(Q:Ω)(E:Ω),Q (.bool (g i j)) s->wpAny (model X.prog X.w) X.A (f (.int i t) (.int j u)) Q E s):cx X f (eO fun i j=>.bl (g i j)):=by
 intro aa s σ H x y v u Q I a b h;obtain⟨i,j,rfl,rfl,q⟩:=h;obtain⟨t,rfl⟩:=a;obtain⟨t',rfl⟩:=b;exact rule i j t t' s _ _ ⟨.bl (g i j),H,I,rfl,q⟩
def pT(i j:Int):Prop:=0<j/\j<1073741824
def kw(i j:Int):Prop:=0<=j/\j<=1000000/\i.natAbs<2 ^ 64
def CMul(i j:Int):Prop:=(-(2 ^ 64)<i/\i<2 ^ 64)\/(-(2 ^ 64)<j/\j<2 ^ 64)
def CMul.ok{i j:Int}(h:CMul i j):IntMulOk i j:=by
 rcases h with ⟨h1,h2⟩|⟨h1,h2⟩
 ·exact .of_left (intBits_le_64 h1 h2)
 ·exact .of_right (intBits_le_64 h1 h2)
def dU:cx X (binaryOp .Add) (eO fun i j=>.int (i+j)):=pS fun _ _ _ _ _ _ _ q=>add_int q
def fy:cx X (binaryOp .Sub) (eO fun i j=>.int (i-j)):=pS fun _ _ _ _ _ _ _ q=>sub_int q
def iU:cx X (binaryOp .Mult) (rI CMul fun i j=>.int (i*j)):=mT fun _ _ _ _ _ _ _ hc q=>mul_int q hc.ok
def D_:cx X (binaryOp .FloorDiv) (rI pT fun i j=>.int (i / j)):=mT fun i j _ _ _ _ _ hc q=>by
 have h1:(0:Int)<j:=hc.1;have h2:j<1073741824:=hc.2;exact floordiv_int ω (by rw[Int.fdiv_eq_ediv_of_nonneg i ω];exact q) (.inl (PyProof.noPylong_small ω))
def fT:cx X (binaryOp .Mod) (rI (fun _ j=>0<j) fun i j=>.int (i%j)):=mT fun i j _ _ _ _ _ hc q=>by
 have h1:(0:Int)<j:=hc;exact mod_int' ω (by rw[Int.fmod_eq_emod_of_nonneg i ω];exact q)
def x3:cx X (binaryOp .Pow) (rI kw fun i j=>.int (i ^ j.toNat)):=mT fun _ _ _ _ _ _ _ hc q=>pow_int_small hc.1 hc.2.1 hc.2.2 q
def LD{f:Value->Sem Value}{g:Int->Int}(rule:∀(i:Int)(t:Tok)(s:Shared)(Q:Ω)(E:Ω),Q (.int (g i) s.toks) {s with toks:=s.toks+1}->wpAny (model X.prog X.w) X.A (f (.int i t)) Q E s):D8 X f (rU fun i=>.int (g i)):=by
 intro aa s σ H x v Q I a h;obtain⟨i,rfl,q⟩:=h;obtain⟨t,rfl⟩:=a;exact rule i t s _ _ ⟨.int (g i),H,I.tok _,⟨_,rfl⟩,q⟩
def fU:D8 X (unaryOp .USub) (rU fun i=>.int (-i)):=LD fun _ _ _ _ _ q=>neg_int q
end
def pU:V->V->Bool
 |.non,.non=>true|.non,.int _=>true|.int _,.non=>true|.non,.bl _=>true|.bl _,.non=>true|.non,.str _=>true|.str _,.non=>true
 |.int _,.int _=>true|.bl _,.bl _=>true|.str _,.str _=>true|.byt _,.byt _=>true
 |.int _,.str _=>true|.str _,.int _=>true|.bl _,.str _=>true|.str _,.bl _=>true
 |_,_=>false
def Ea:R2:=fun x y H Q=>pU x y=true/\Q (.bl (decide (x=y))) H
def p8:R2:=fun x y H Q=>pU x y=true/\Q (.bl (!decide (x=y))) H
def ic{i j:Int}:decide (V.int i=V.int j)=(i==j):=by
 rw[Bool.eq_iff_iff];simp
def gu{i j:Bool}:decide (V.bl i=V.bl j)=(i==j):=by
 rw[Bool.eq_iff_iff];simp
def GY{i j:Str}:decide (V.str i=V.str j)=(i==j):=by
 rw[Bool.eq_iff_iff];simp
def GZ{i j:Array UInt8}:decide (V.byt i=V.byt j)=(i.toList==j.toList):=by
 rw[Bool.eq_iff_iff];cases i;cases j;simp
section
variable{X:Cx}{a b c:Expr}{ta tb tc:TE}{pos:Pos}
def aH{aa:Ψ}{σ:St}{H:Hp}{s:Shared}{Q:VK}{k a:Bool}(I:Inv X aa σ H s)(q:Q (.bl k) H)(e:k=a):EP X aa σ Q (.bool a) s:=by
 subst e;exact⟨.bl k,H,I,rfl,q⟩
def fX:cx X (compareOp .Eq) Ea:=by
 intro aa s σ H x y v u Q I c a h;obtain⟨b,q⟩:=h;cases x with
 |non=>
  cases c;cases y with
  |non=>cases a;exact PySem.EqNone.eq_none_none (aH I q (by simp))
  |bl j=>cases a;exact PySem.EqNone.eq_none_bool (aH I q (by simp))
  |int j=>obtain⟨t',rfl⟩:=a;exact PySem.EqNone.eq_none_int (aH I q (by simp))
  |str j=>obtain⟨t',rfl⟩:=a;exact PySem.EqNone.eq_none_str (aH I q (by simp))
  |_=>exact absurd (show false=true from b) Aw
 |bl i=>
  cases c;cases y with
  |non=>cases a;exact PySem.EqNone.eq_bool_none (aH I q (by simp))
  |bl j=>cases a;exact eq_bool (aH I q gu)
  |str j=>obtain⟨t',rfl⟩:=a;exact PySem.EqMixed.eq_bool_str (aH I q (by simp))
  |_=>exact absurd (show false=true from b) Aw
 |int i=>
  obtain⟨t,rfl⟩:=c;cases y with
  |non=>cases a;exact PySem.EqNone.eq_int_none (aH I q (by simp))
  |int j=>obtain⟨t',rfl⟩:=a;exact eq_int (aH I q ic)
  |str j=>obtain⟨t',rfl⟩:=a;exact PySem.EqMixed.eq_int_str (aH I q (by simp))
  |_=>exact absurd (show false=true from b) Aw
 |str i=>
  obtain⟨t,rfl⟩:=c;cases y with
  |non=>cases a;exact PySem.EqNone.eq_str_none (aH I q (by simp))
  |bl j=>cases a;exact PySem.EqMixed.eq_str_bool (aH I q (by simp))
  |int j=>obtain⟨t',rfl⟩:=a;exact PySem.EqMixed.eq_str_int (aH I q (by simp))
  |str j=>obtain⟨t',rfl⟩:=a;exact eq_str (aH I q GY)
  |_=>exact absurd (show false=true from b) Aw
 |byt i=>
  obtain⟨t,rfl⟩:=c;cases y with
  |byt j=>obtain⟨t',rfl⟩:=a;exact PySem.W.eq_bytes (aH I q GZ)
  |_=>exact absurd (show false=true from b) Aw
 |_=>cases y<;>exact absurd (show false=true from b) Aw
def ik:cx X (compareOp .NotEq) p8:=by
 intro aa s σ H x y v u Q I c a h;obtain⟨b,q⟩:=h;cases x with
 |non=>
  cases c;cases y with
  |non=>cases a;exact PySem.EqNone.ne_none_none (aH I q (by simp))
  |bl j=>cases a;exact PySem.EqNone.ne_none_bool (aH I q (by simp))
  |int j=>obtain⟨t',rfl⟩:=a;exact PySem.EqNone.ne_none_int (aH I q (by simp))
  |str j=>obtain⟨t',rfl⟩:=a;exact PySem.EqNone.ne_none_str (aH I q (by simp))
  |_=>exact absurd (show false=true from b) Aw
 |bl i=>
  cases c;cases y with
  |non=>cases a;exact PySem.EqNone.ne_bool_none (aH I q (by simp))
  |bl j=>cases a;exact ne_bool (aH I q (congrArg not gu))
  |str j=>obtain⟨t',rfl⟩:=a;exact PySem.EqMixed.ne_bool_str (aH I q (by simp))
  |_=>exact absurd (show false=true from b) Aw
 |int i=>
  obtain⟨t,rfl⟩:=c;cases y with
  |non=>cases a;exact PySem.EqNone.ne_int_none (aH I q (by simp))
  |int j=>obtain⟨t',rfl⟩:=a;exact ne_int (aH I q (congrArg not ic))
  |str j=>obtain⟨t',rfl⟩:=a;exact PySem.EqMixed.ne_int_str (aH I q (by simp))
  |_=>exact absurd (show false=true from b) Aw
 |str i=>
  obtain⟨t,rfl⟩:=c;cases y with
  |non=>cases a;exact PySem.EqNone.ne_str_none (aH I q (by simp))
  |bl j=>cases a;exact PySem.EqMixed.ne_str_bool (aH I q (by simp))
  |int j=>obtain⟨t',rfl⟩:=a;exact PySem.EqMixed.ne_str_int (aH I q (by simp))
  |str j=>obtain⟨t',rfl⟩:=a;exact ne_str (aH I q (congrArg not GY))
  |_=>exact absurd (show false=true from b) Aw
 |byt i=>
  obtain⟨t,rfl⟩:=c;cases y with
  |byt j=>obtain⟨t',rfl⟩:=a;exact PySem.W.ne_bytes (aH I q (congrArg not GZ))
  |_=>exact absurd (show false=true from b) Aw
 |_=>cases y<;>exact absurd (show false=true from b) Aw
def p_:cx X (compareOp .Lt) (eO fun i j=>.bl (decide (i<j))):=iR fun _ _ _ _ _ _ _ q=>lt_int q
def G0:cx X (compareOp .LtE) (eO fun i j=>.bl (decide (i<=j))):=iR fun _ _ _ _ _ _ _ q=>le_int q
def iV:cx X (compareOp .Gt) (eO fun i j=>.bl (decide (j<i))):=iR fun _ _ _ _ _ _ _ q=>gt_int q
def LF:cx X (compareOp .GtE) (eO fun i j=>.bl (decide (j<=i))):=iR fun _ _ _ _ _ _ _ q=>ge_int q
def av(b:Expr){a:CmpOp}(h:a≠.In:=by decide)(h2:a≠.NotIn:=by decide):behindInMarks a b=false:=by
 have e1:(a==CmpOp.In)=false:=by cases a<;>first|rfl|exact absurd rfl h
 have e2:(a==CmpOp.NotIn)=false:=by cases a<;>first|rfl|exact absurd rfl h2
 cases b<;>simp[behindInMarks,e1,e2]
def iY{c:CmpOp}{r:R2}(g:cx X (compareOp c) r)(i:PE X a ta)(hb:PE X b tb)(j:behindInMarks c b=false):PE X (.Compare a [c] [b] pos) (bI r ta tb):=by
 intro aa s σ H Q I h;exact wpAny_Compare1 (kr i hb I h fun v u d x y H2 l e f q=>g aa d σ H2 x y v u Q l e f q) j
def mV(t:TE):TT:=fun σ H Q=>t σ H fun x H'=>∃k,x=.bl k/\Q k H'
def zw{d:CmpOp}{r:R2}(w:cx X (compareOp d) r)(A:PE X a ta)(hb:PE X b tb)(C:behindInMarks d b=false):PT X (.Compare a [d] [b] pos) (mV (bI r ta tb)):=by
 intro aa s σ H Q I h;refine wpAny_isTrue_Compare1 (aT (A aa s σ H _ I h) fun v f ⟨x,H1,D,g,i⟩=>aT (hb aa f σ H1 _ D i) fun u j ⟨y,H2,E,l,o⟩=>
  aT (w aa j σ H2 x y v u _ E g l o) fun c J ⟨z,F,G,p,k,e,q⟩=>?_) C
 subst e;cases p;exact wpAny_truthy_bool ⟨F,G,q⟩
def LG(r c:R2)(ta tb tc:TE):TE:=fun σ H Q=>ta σ H fun x H1=>tb σ H1 fun y H2=>r x y H2 fun z a=>∃k,z=.bl k/\
 (if k=true then tc σ a fun b d=>c y b d Q else Q (.bl false) a)
def G1{f g:CmpOp}{r l:R2}(O:cx X (compareOp f) r)(P:cx X (compareOp g) l)(S:PE X a ta)(hb:PE X b tb)(hc:PE X c tc)(T:lastMarks [f,g] [b,c]=false:=by with_unfolding_all rfl):PE X (.Compare a [f,g] [b,c] pos) (LG r l ta tb tc):=by
 intro aa s σ H Q I h;refine Compare_chain (aT (S aa s σ H _ I h) fun v q ⟨x,H1,U,w,A⟩=>chain_link (aT (hb aa q σ H1 _ U A) fun u C ⟨y,H2,W,i,D⟩=>
  aT (O aa C σ H2 x y v u _ W w i D) fun d E ⟨z,o,p,F,k,e,j⟩=>?_)) T
 subst e;cases F;refine wpAny_truthy_bool ?_;cases k with
 |false=>exact ite_ff ⟨.bl false,o,p,rfl,j⟩
 |true=>exact ite_tt (chain_last (aT (hc aa E σ o _ p j) fun G J ⟨L,Y,Z,M,N⟩=>P aa J σ Y y L u G Q Z i M N))
def dn:(sizeLine:Nat)<2 ^ 63:=by rw[sizeLine_eq];decide
def vals1{x:V}{us:List Value}(r:Vals [x] us):∃u,us=[u]/\RelV x u:=by
 cases r with
 |cons r1 r2=>cases r2;exact⟨_,rfl,r1⟩
def vals2{x y:V}{us:List Value}(r:Vals [x,y] us):∃u a,us=[u,a]/\RelV x u/\RelV y a:=by
 cases r with
 |cons r1 r2=>
  cases r2 with
  |cons r3 r4=>cases r4;exact⟨_,_,rfl,r1,r3⟩
def G2:fj X (.builtin "abs") (fun xs H Q=>∃i,xs=[.int i]/\Q (.int (if i<0 then -i else i)) H):=by
 intro aa s σ H xs us Q I r h;obtain⟨i,rfl,q⟩:=h;obtain⟨u,rfl,t,rfl⟩:=vals1 r;exact call_abs_int fun u tk=>⟨.int (if i<0 then -i else i),H,I.tok _,⟨_,rfl⟩,q⟩
def G3(hc:X.calm=true):fj X (.builtin "min") (fun xs H Q=>∃i j,xs=[.int i,.int j]/\Q (.int (if j<i then j else i)) H):=by
 intro aa s σ H xs us Q I r h;obtain⟨i,j,rfl,q⟩:=h;obtain⟨u,b,rfl,⟨t,rfl⟩,⟨t',rfl⟩⟩:=vals2 r;refine min_two_ints (I.ok.hd hc) fun h' tk k=>⟨_,H,I.kept k,?_,q⟩
 by_cases a:j<i
 ·rw[if_pos a,if_pos a];exact⟨_,rfl⟩
 ·rw[if_neg a,if_neg a];exact⟨_,rfl⟩
end
structure ObjM(h:Heap)(x dx C:Addr)(mA:Str->Option Value):Prop where
 obj:h.get? x=some (PySem.W.instObj C dx)
 ns:h.Ns1 dx mA
 ne:dx≠x
def LJ{h:Heap}{dx:Addr}{mA:Str->Option Value}(n:h.Ns1 dx mA):∃b,h.get? dx=some b/\∀name,PySem.W.lookIn name b=some (mA name):=by
 obtain⟨o,es,ep,c,hd,hk,_,d⟩:=n;refine⟨o,c,fun name=>?_⟩;have e:=d name;unfold nsFind findBy at e;rw[<-Array.find?_toList] at e;unfold PySem.W.lookIn;rw[hd];dsimp only;split
 ·rename_i y q
  rw[q] at e;exact congrArg some e
 ·rename_i q
  rw[q] at e;have a:es.toList.any (·.refKey)=false:=by
   rw[List.any_eq_false];intro y hy;obtain⟨z,t,f⟩:=hk y (Array.mem_toList_iff.mp hy);simp[DictEntry.refKey,f]
  have a':¬es.toList.any (·.refKey)=true:=by rw[a];exact Aw
  rw[if_neg a'];exact congrArg some e
def ObjM.look{h:Heap}{x dx C:Addr}{mA:Str->Option Value}(I:ObjM h x dx C mA):∃a,PySem.W.InstAt h x (PySem.W.instObj C dx) C (some a)/\∀name,PySem.W.lookIn name a=some (mA name):=
 let ⟨a,ho,hl⟩:=LJ I.ns
 ⟨a,⟨I.obj,rfl,rfl,ho⟩,hl⟩
def RelO.some_of{v:V}{o:Option Value}(r:RelO (some v) o):∃u,o=some u/\RelV v u:=by
 cases o with
 |none=>exact(show False from r).elim
 |some u=>exact⟨u,rfl,r⟩
section
variable{P:Program}{w:World}{H H':Hp}{h h':Heap}{a C dx:Addr}{fs xp:List (Str×V)}
def LK(b:HOk P w H h)(e:H a=some (.ins C dx fs)):∃mA,ObjM h a dx C mA/\(∀f,RelO (fs.lookup f) (mA f))/\PySem.Within mA (fs.map (·.1))/\fs.length<=1000/\H dx=some (.own a):=by
 obtain⟨d,z,ne,c,mA,n,r,q⟩:=(show zW P w H h a (.ins C dx fs) from b a _ e);exact⟨mA,⟨c,n,ne⟩,r,q,z,d⟩
end
structure Cls(K:Af)(C:Addr):Prop where
 pg:PySem.W.plainGet K C Str.empty=true
 hd:PySem.W.hasDictIn K C=true
 po:PySem.W.plainOver K C=true
 sa:PySem.W.findIn K (.ref C) "__setattr__"=some (some (.builtin "object.__setattr__"))
def Cls.get{K:Af}{C:Addr}(c:Cls K C)(f:Str):PySem.W.plainGet K C f=true:=c.pg
section
variable{X:Cx}{aa:Ψ}{σ:St}{H:Hp}{s:Shared}{A:Around}{E:Ω}{Q:Ω}{c:Value}{b:Bool}
inductive cA(K:Af)(H:Hp):V->Value->Prop where
 |non:cA K H .non (.type "NoneType")
 |bl (x:Bool):cA K H (.bl x) (.type "bool")
 |int (i:Int):cA K H (.int i) (.type "int")
 |str (x:Str):cA K H (.str x) (.type "str")
 |flt (x:UInt64):cA K H (.flt x) (.type "float")
 |lst {a:Addr} {xs:List V} (e:H a=some (.lst xs)):cA K H (.ref a) (.type "list")
 |frz {a:Addr} {o:Obj} {xs:List V} (e:H a=some (.frz o (.lst xs))):cA K H (.ref a) (.type "list")
 |tup {a:Addr} {xs:List V} (e:H a=some (.tup xs)):cA K H (.ref a) (.type "tuple")
 |dK {a:Addr} {kvs:List (Key×V)} (e:H a=some (.dK kvs)):cA K H (.ref a) (.type "dict")
 |dT {a:Addr} {kvs:List (List Key×V)} (e:H a=some (.dT kvs)):cA K H (.ref a) (.type "dict")
 |ins {a C dx:Addr} {fs:List (Str×V)} (e:H a=some (.ins C dx fs)) (cl:Cls K C) (ha:PySem.W.findIn K (.ref C) "__class__"=some (some (.builtin "object.__class__")))
   (hn:PySem.W.specialIn K (.builtin "object.__class__") "__get__"=some (some (.builtin "getset_descriptor.__get__"))) (oF:PySem.W.takesIn K (.builtin "object.__class__")=some true)
   (hm:PySem.W.mroIn K C (.type "object")=some true):cA K H (.ref a) (.ref C)
def Eb{x:V}{u t:Value}(I:Inv X aa σ H s)(d:RelV x u)(ty:cA X.K H x t)(e:Bk X.K t c=some b)(h:∀tk,Q (.bool b) {s with toks:=tk}):wpAny (model X.prog X.w) A (call (.builtin "isinstance") [u,c]) Q E s:=by
 cases ty with
 |non=>cases(show u=Value.none from d);exact PySem.W.kia_one PySem.W.kitx_none I.kIn True.intro e (fun z=>nomatch z) h
 |bl y=>cases(show u=Value.bool y from d);exact PySem.W.kia_one PySem.W.kitx_bool I.kIn True.intro e (fun z=>nomatch z) h
 |int i=>obtain⟨t,q⟩:=(show ∃t,u=Value.int i t from d);cases q;exact PySem.W.kia_one PySem.W.kitx_int I.kIn True.intro e (fun z=>nomatch z) h
 |str y=>obtain⟨t,q⟩:=(show ∃t,u=Value.str y t from d);cases q;exact PySem.W.kia_one PySem.W.kitx_str I.kIn True.intro e (fun z=>nomatch z) h
 |flt y=>obtain⟨t,q⟩:=(show ∃t,u=Value.float y t from d);cases q;exact PySem.W.kia_one PySem.W.kitx_float I.kIn True.intro e (fun z=>nomatch z) h
 |@lst a xs ea=>
  cases(show u=Value.ref a from d);obtain⟨_,_,n,_,h1⟩:=(show zW X.prog X.w H s.heap a (.lst xs) from I.hok a _ ea);exact PySem.W.kia_one PySem.W.kitx_list I.kIn ⟨_,h1,rfl⟩ e (fun z=>nomatch z) h
 |@frz a ob xs ea=>
  cases(show u=Value.ref a from d);obtain⟨_,_,_,n,_,h1⟩:=(show zW X.prog X.w H s.heap a (.frz ob (.lst xs)) from I.hok a _ ea);exact PySem.W.kia_one PySem.W.kitx_list I.kIn ⟨_,h1,rfl⟩ e (fun z=>nomatch z) h
 |@tup a xs ea=>
  cases(show u=Value.ref a from d);obtain⟨_,_,_,p⟩:=(show zW X.prog X.w H s.heap a (.tup xs) from I.hok a _ ea);obtain⟨o,h1,h2,_⟩:=p;exact PySem.W.kia_one PySem.W.kitx_tuple I.kIn ⟨o,h1,h2⟩ e (fun z=>nomatch z) h
 |@dK a kvs ea=>
  cases(show u=Value.ref a from d);obtain⟨_,_,vs,_,p⟩:=(show zW X.prog X.w H s.heap a (.dK kvs) from I.hok a _ ea);obtain⟨o,es,ep,h1,h2,_⟩:=p;exact PySem.W.kia_one PySem.W.kitx_dict I.kIn ⟨o,h1,h2.1⟩ e (fun z=>nomatch z) h
 |@dT a kvs ea=>
  cases(show u=Value.ref a from d);obtain⟨_,_,xs,_,o,es,ep,h1,h2,_⟩:=(show zW X.prog X.w H s.heap a (.dT kvs) from I.hok a _ ea);exact PySem.W.kia_one PySem.W.kitx_dict I.kIn ⟨o,h1,h2.1⟩ e (fun z=>nomatch z) h
 |@ins a C dx fs ea cl ha hn oF hm=>
  cases(show u=Value.ref a from d);obtain⟨mA,O,_⟩:=LK I.hok ea;obtain⟨f,J,_⟩:=O.look;exact PySem.W.kia_one (PySem.W.kitx_own (cl.get _) cl.hd ha hn oF hm) I.kIn J e (fun z=>nomatch z) h
end
structure Room(k:Nat)(A:Around):Prop where
 hd:A.handled=none
 dp:A.depth+3*k+5<recursionLimit
 un:A.units+16*k+200<cLine
def Room.mono{j k:Nat}{A:Around}(r:Room k A)(h:j<=k):Room j A:=⟨r.hd,by have:=r.dp;(first|lia|omega),by have:=r.un;(first|lia|omega)⟩
def Room.deeper{k:Nat}{A:Around}(r:Room (k+1) A)(env:Env):Room k (A.deeper env):=
 ⟨r.hd,by have:=r.dp;show A.depth+1+3*k+5<_;(first|lia|omega),by have:=r.un;show A.units+3+16*k+200<_;(first|lia|omega)⟩
def Room.in1{k:Nat}{A:Around}(r:Room (k+1) A):Room k A.in1:=
 ⟨r.hd,by have:=r.dp;show A.depth+3*k+5<_;(first|lia|omega),by have:=r.un;show A.units+1+16*k+200<_;(first|lia|omega)⟩
def Room.depth{k:Nat}{A:Around}(r:Room k A):A.depth<recursionLimit:=by have:=r.dp;(first|lia|omega)
def Room.units{k:Nat}{A:Around}(r:Room k A):A.units+64<cLine:=by have:=r.un;(first|lia|omega)
def bL:TA:=fun _ H Q=>Q [] H
def zO(ta:TE)(tr:TA):TA:=fun σ H Q=>ta σ H fun x H1=>tr σ H1 fun xs H2=>Q (x::xs) H2
section
variable{X:Cx}{e:Expr}{es:List Expr}{te:TE}{t:TA}{pos:Pos}
def ah:PA X [] bL:=fun _ _ _ _ H Q I h=>Calls.spliced_nil ⟨[],H,I,.nil,h⟩
def af(g:PE X e te)(hr:PA X es t)(i:starEach (e::es) X.env=(false,eval e X.env)::starEach es X.env:=by rfl):PA X (e::es) (zO te t):=by
 intro pos aa s σ H Q I h;rw[i];show wpAny _ _ (spliced ((false,eval e X.env)::backTo pos (starEach es X.env))) _ _ s;refine Calls.spliced_cons (aT (g aa s σ H _ I h) fun u a ⟨x,H1,j,b,c⟩=>?_);exact aT (hr pos aa a σ H1 _ j c) fun us o ⟨xs,H2,l,d,f⟩=>⟨x::xs,H2,l,.cons b d,f⟩
def Ec(t:TA):TE:=fun σ H Q=>t σ H fun xs H1=>xs.length<=sizeLine/\∀p,H1 p=none->Q (.ref p) (upd H1 p (.tup xs))
def qe(t:TA):TE:=fun σ H Q=>t σ H fun xs H1=>xs.length<=sizeLine/\∀p,H1 p=none->Q (.ref p) (upd H1 p (.lst xs))
def il{x1}(h:PA X es t):PE X (.Tuple es x1 pos) (Ec t):=by
 intro aa s σ H Q I hq;refine wpAny_Tuple_spliced (aT (h pos aa s σ H _ I hq) fun us a ⟨xs,H1,I1,r,z,q⟩=>⟨by rw[<-r.length];exact z,?_⟩);have c:H1 a⁻¹=none:=I1.hok.fresh (Ae _);refine⟨.ref a⁻¹,upd H1 a⁻¹ (.tup xs),I1.laid (t':=a.toks) (fun b u e=>Ai _ e) (Ae _) ?_,rfl,q _ c⟩;exact⟨z,us,r,⟨_,AK _ rfl,rfl,_,rfl⟩⟩
def zX(h:PA X es t):PE X (.List es pos) (qe t):=by
 intro aa s σ H Q I hq;refine wpAny_List_spliced (aT (h pos aa s σ H _ I hq) fun us a ⟨xs,H1,I1,r,z,q⟩=>⟨by rw[<-r.length];exact z,?_⟩);have c:H1 a⁻¹=none:=I1.hok.fresh (Ae _);refine⟨.ref a⁻¹,upd H1 a⁻¹ (.lst xs),I1.laid (t':=a.toks) (fun b u e=>Ai _ e) (Ae _) ?_,rfl,q _ c⟩;exact⟨z,us,0,r,AK _ rfl⟩
end
abbrev Sp:=List V->Hp->VK->XK->Prop
abbrev eP:=List Env->Hp->Shared->XK->Ω
structure Env0(P:Program)(w:World)(K:Af)(mg:Str->Option Value)(base:Heap)(A:Around)(outer:List Env)(s:Shared)(H:Hp):Prop where
 frames:A.frames=some outer
 mod:Mod K mg base
 bs:∀b o,base.get? b=some o->s.heap.get? b=some o/\H b=none
 bsz:base.objs.size<=s⁻¹
 funs:s.heap.FunFrames base outer
 frf:∀b∈frs outer,H b=none
 hok:HOk P w H s.heap
 bare:AllBare s.gens
def CE(outer:List Env)(P:Program)(w:World)(H:Hp)(s:Shared)(Q:VK)(u:Value)(s':Shared):Prop:=
 ∃v H',s'.os=s.os/\AllBare s'.gens/\Un (frs outer) [] H H' s.heap s'.heap/\HOk P w H' s'.heap/\RelV v u/\Q v H'
def CR(CX:eP)(outer:List Env)(P:Program)(w:World)(H:Hp)(s:Shared)(Q:VK)(E:XK)(r:Result)(s':Shared):Prop:=
 match r with
 |.ok (.ret u)=>CE outer P w H s Q u s'
 |.ok _=>False
 |.error e=>CX outer H s E e s'
structure ar(P:Program)(w:World)(K:Af)(mg:Str->Option Value)(base:Heap)(CX:eP)(k:Nat)(f:Addr)(fd:FuncData)(ps:List Str)(sp:Sp):Prop where
 len:∀vs H Q E,sp vs H Q E->vs.length=ps.length
 run:∀(A:Around)(outer:List Env)(s:Shared)(H:Hp)(args:Args)(us:List Value)(vs:List V)(Q:VK)(E:XK),Room k A->Env0 P w K mg base A outer s H->BindsTo s fd args (ps.zip us)->Vals vs us->sp vs H Q E->
  codeAny (model P w) A (.call (.ref f) args) (CR CX outer P w H s Q E) s
def Env0.in1{P:Program}{w:World}{K:Af}{mg:Str->Option Value}{base:Heap}{A:Around}{outer:List Env}{s:Shared}{H:Hp}(e:Env0 P w K mg base A outer s H):Env0 P w K mg base A.in1 outer s H:=⟨e.frames,e.mod,e.bs,e.bsz,e.funs,e.frf,e.hok,e.bare⟩
section
variable{X:Cx}{aa:Ψ}{σ:St}{H:Hp}{s s':Shared}
def Inv.env0(I:Inv X aa σ H s):Env0 X.prog X.w X.K X.mg X.base X.A X.stack s H:=
 ⟨I.ok.frames,I.ok.mod,I.bs,Ag I.ok.bsz I.sz,I.stack,I.stkFree,I.hok,I.bare⟩
def Inv.after{Q:VK}{u:Value}(I:Inv X aa σ H s)(h:CE X.stack X.prog X.w H s Q u s'):EP X aa σ Q u s':=by
 obtain⟨v,H',os,a,un,c,r,q⟩:=h;obtain⟨e,g,d,t,f⟩:=s';obtain rfl:f=s.os:=os;exact⟨v,H',I.call (h':=e) (g':=g) (d':=d) (t':=t) (ch:=[]) un c a (fun b z=>absurd z (by simp)),r,q⟩
end
def fY(sp:Sp)(c9:List V)(E:XK)(t:TA):TE:=fun σ H Q=>t σ H fun vs H1=>sp (vs++c9) H1 Q E
def Binds(K:Af)(fd:FuncData)(ps:List Str)(ds:List Value):Prop:=
 ∀(s:Shared)(us:List Value),K.In s.heap->(us++ds).length=ps.length->BindsTo s fd ⟨us,[]⟩ (ps.zip (us++ds))
def Binds.all{K:Af}{fd:FuncData}{ps:List Str}(h:∀us:List Value,us.length=ps.length->bindArgs fd ⟨us,[]⟩=pure (ps.zip us)):Binds K fd ps []:=fun s us _ a=>by
 rw[List.append_nil] at a ⊢;exact .of_eq (h us a)
def dt(CX:eP)(X:Cx)(E:XK):Prop:=∀(aa:Ψ)(σ:St)(H:Hp)(s:Shared)(e:Value)(s':Shared),Inv X aa σ H s->CX X.stack H s E e s'->X.xe e s'
section
variable{X:Cx}{CX:eP}{k:Nat}{f C:Addr}{fd:FuncData}{ps:List Str}{sp:Sp}{c9:List V}{ds:List Value}{E:XK}{x m:Str}{p pos bW:Pos}{e o:Expr}{es:List Expr}{ta:TE}{t:TA}
def LN{aa:Ψ}{σ:St}{H:Hp}{s:Shared}{Q:VK}{us:List Value}{vs:List V}(F:ar X.prog X.w X.K X.mg X.base CX k f fd ps sp)(hr:Room k X.A)(hb:Binds X.K fd ps ds)(hd:Vals c9 ds)(hx:dt CX X E)(I:Inv X aa σ H s)(r:Vals vs us)(h:sp (vs++c9) H Q E):wpAny (model X.prog X.w) X.A (call (.ref f) us) (EP X aa σ Q) X.xe s:=by
 have a:Vals (vs++c9) (us++ds):=r.append hd;have b:(us++ds).length=ps.length:=by rw[<-a.length];exact F.len _ _ _ _ h
 refine wpAny_call (codeAny_mono (F.run X.A X.stack s H ⟨us,[]⟩ (us++ds) (vs++c9) Q E hr I.env0 (hb s us I.kIn b) a h) fun r s' hq=>?_);cases r with
 |error e=>exact hx aa σ H s e s' I hq
 |ok fl=>
  cases fl with
  |ret u=>exact I.after hq
  |next=>exact False.elim hq
  |brk=>exact False.elim hq
  |cont=>exact False.elim hq
def zf(F:ar X.prog X.w X.K X.mg X.base CX k f fd ps sp)(hr:Room k X.A)(hg:Gl X x)(b:X.mg x=some (.ref f))(hk:PySem.W.keepIn X.K (.ref f)=true)(hb:Binds X.K fd ps ds)(hd:Vals c9 ds)(hx:dt CX X E)(c:PA X (e::es) t)(d:(x==("__debug__":Str))=false:=by decide)(g:starEach (e::es) X.env=(false,eval e X.env)::starEach es X.env:=by rfl)(a:(backTo pos (starEach es X.env)).any (·.1)=false:=by rfl):PE X (.Call (.Name x p) (e::es) [] pos) (fY sp c9 E t):=by
 intro aa s σ H Q I h;refine wpAny_Call_Name_kw (w_ I hg b ?_ d);refine PySem.W.callWith_K (h₀:=X.base) I.ok.mod.kin hk (aT (c pos aa s σ H _ I h) fun us i ⟨vs,H1,I1,r,q⟩=>⟨I1.kIn,?_⟩) g a;exact LN F hr hb hd hx I1 r q
structure Mk(K:Af)(C f:Addr):Prop where
 makes:PySem.W.makesIn K C=true
 init:PySem.W.findIn K (.ref C) "__init__"=some (some (.ref f))
 fn:PySem.W.isFn K (.ref f)=true
 kp:PySem.W.keepIn K (.ref C)=true
end
structure zm(N P:List Str)(sc:Scope):Prop where
 kind:sc.kind=.function
 co:sc.isCoroutine=false
 gen:sc.isGenerator=false
 nd:N.Nodup
 pre:N.take P.length=P
 par:∀x∈P,sc.names.lookup x=some .local\/sc.names.lookup x=some .cell
 nofree:∀y∈sc.names,y.2≠.free
def G4{kindOf:Str->Option NameKind}{x:Str}:∀{binds:List (Str×Value)}{m:Str->Option Value},(∀v,(x,v)∉binds)->bindL kindOf binds m x=m x
 |[],_,_=>rfl
 |(n,v)::r,m,h=>by
  unfold bindL;rw[G4 fun w hw=>h w (Ay _ hw)];split
  ·have:x≠n:=by rintro rfl;exact h v At
   simp[this]
  ·rfl
def G5{kindOf:Str->Option NameKind}{x:Str}:∀{binds:List (Str×Value)}{m:Str->Option Value},(∀v,(x,v)∉binds)->bindC kindOf binds m x=m x
 |[],_,_=>rfl
 |(n,v)::r,m,h=>by
  unfold bindC;rw[G5 fun w hw=>h w (Ay _ hw)];split
  ·rfl
  ·have:x≠n:=by rintro rfl;exact h v At
   simp[this]
def G6{kindOf:Str->Option NameKind}{x:Str}{v:Value}:∀{P:List Str}{vs:List Value}{i:Nat}{m:Str->Option Value},P.Nodup->P[i]?=some x->vs[i]?=some v->kindOf x=some .local->
  bindL kindOf (P.zip vs) m x=some v
 |[],_,_,_,_,h,_,_=>by simp at h
 |_::_,[],_,_,_,_,h,_=>by simp at h
 |p::P,w::vs,0,m,nd,h1,h2,hk=>by
  simp at h1 h2;subst h1;subst h2;show bindL kindOf ((p,w)::P.zip vs) m p=_;unfold bindL;rw[G4 fun v a=>(List.nodup_cons.mp nd).1 (List.of_mem_zip a).1,if_pos hk];simp
 |p::P,w::vs,i+1,m,nd,h1,h2,hk=>by
  show bindL kindOf ((p,w)::P.zip vs) m x=_;unfold bindL;exact G6 (i:=i) (List.nodup_cons.mp nd).2 (by simpa using h1) (by simpa using h2) hk
def G7{kindOf:Str->Option NameKind}{x:Str}{v:Value}:∀{P:List Str}{vs:List Value}{i:Nat}{m:Str->Option Value},P.Nodup->P[i]?=some x->vs[i]?=some v->kindOf x≠some .local->
  bindC kindOf (P.zip vs) m x=some v
 |[],_,_,_,_,h,_,_=>by simp at h
 |_::_,[],_,_,_,_,h,_=>by simp at h
 |p::P,w::vs,0,m,nd,h1,h2,hk=>by
  simp at h1 h2;subst h1;subst h2;show bindC kindOf ((p,w)::P.zip vs) m p=_;unfold bindC;rw[G5 fun v a=>(List.nodup_cons.mp nd).1 (List.of_mem_zip a).1,if_neg hk];simp
 |p::P,w::vs,i+1,m,nd,h1,h2,hk=>by
  show bindC kindOf ((p,w)::P.zip vs) m x=_;unfold bindC;exact G7 (i:=i) (List.nodup_cons.mp nd).2 (by simpa using h1) (by simpa using h2) hk
def start(N:List Str)(vs:List V):St:=vs.map some++Au (N.length-vs.length) none
def bG(CX:eP)(P:Program)(w:World)(K:Af)(mg:Str->Option Value)(base:Heap)(N:List Str)(a:Str)(scope:Scope)(f:Addr)(b:Value)(A:Around)(outer:List Env)(s:Shared)(H:Hp)(E:XK):Cx where
 prog:=P
 w:=w
 K:=K
 mg:=mg
 base:=base
 A:=A.deeper (envOfC a scope s⁻¹ f b)
 N:=N
 s₀:=s
 H₀:=H
 env:=envOfC a scope s⁻¹ f b
 outer:=outer
 stack:=envOfC a scope s⁻¹ f b::outer
 ex:=[]
 calm:=true
 fn:=fun _=>true
 pn:=[]
 xe:=fun e s'=>wpAny (model P w) (A.deeper (envOfC a scope s⁻¹ f b)) (leaving (envOfC a scope s⁻¹ f b) e) (fun _ c=>CX outer H s E e c) (fun d c=>CX outer H s E d c) s'
def G8{sc:Scope}{n:Nat}{x:Str}(h:sc.names.lookup x=some .cell):∃c,(Bp n sc.names []).lookup x=some c:=by
 have q:=PySem.W.cellsFrom_some sc.names n [] (.inl h);exact Option.isSome_iff_exists.mp q
def G9{CX:eP}{P:Program}{w:World}{K:Af}{mg:Str->Option Value}{base:Heap}{N ps:List Str}{j:Str}{scope:Scope}{f:Addr}{l:Value}{A:Around}{outer:List Env}{s C:Shared}{H:Hp}{E:XK}{us:List Value}{vs:List V}(S:zm N ps scope)(hd:A.handled=none)(d:Env0 P w K mg base A outer s H)(J:vs.length=ps.length)(r:Vals vs us)(x:InCallC s s⁻¹ (bindL (envOfC j scope s⁻¹ f l).kindOf (ps.zip us) fun _=>none) (Bp (s⁻¹+1) scope.names []) (bindC (envOfC j scope s⁻¹ f l).kindOf (ps.zip us) fun _=>none) C):Inv (bG CX P w K mg base N j scope f l A outer s H E) [] (start N vs) H C:=by
 have F:ps.length<=N.length:=by have:=congrArg List.length S.pre;rw[List.length_take] at this;(first|lia|omega)
 obtain⟨h1,tk,rfl,hk⟩:=x.done;have o:∀b:Addr,b∉(bG CX P w K mg base N j scope f l A outer s H E).ex:=fun b z=>absurd (show b∈([]:List Addr) from z) (by simp);refine⟨⟨d.mod,S.kind,rfl,rfl,Ae _,fun y z c h1 h2=>?_,fun y hy=>?_,fun y c _ h=>?_,fun _=>hd,Around.frames_deeper d.frames,.inr ⟨rfl,rfl⟩,fun b z=>absurd z (o b),d.bs,d.bsz,fun b _ _=>o b,fun b z=>absurd z (o b),d.funs,d.frf⟩,
  rfl,d.bare,Un.kept hk,⟨_,x.toInCall.ns,fun i y v h1 h2 I=>?_⟩,fun y c h=>⟨_,x.cell y c h⟩,d.hok.fresh (Ae _),fun y c h=>?_,fun p hp=>absurd (show p∈([]:Ψ) from hp) (by simp),d.hok.kept hk,?_⟩
 ·exact name_of_addr x.apart (PySem.mem_of_lookup h1) (PySem.mem_of_lookup h2)
 ·have hy:scope.names.lookup y=some .cell\/scope.names.lookup y=some .free:=hy
  rcases hy with hy|hy
  ·exact G8 hy
  ·exact absurd rfl (S.nofree _ (PySem.mem_of_lookup hy))
 ·exact Nat.le_of_lt (x.above y c (PySem.mem_of_lookup h))
 ·have hi:i<vs.length:=by
   unfold start at h2
   by_cases hi:i<vs.length
   ·exact hi
   ·rw[List.getElem?_append_right (by simpa using hi)] at h2
    rw[List.getElem?_replicate] at h2;split at h2<;>cases h2
  have G:vs[i]?=some v:=by
   unfold start at h2;rw[List.getElem?_append_left (by simpa using hi),Aj] at h2;cases e:vs[i]? with
   |none=>rw[e] at h2;cases h2
   |some a=>rw[e] at h2;cases h2;rfl
  obtain⟨u,hu,D⟩:=r.get G;have hp:ps[i]?=some y:=by
   rw[<-S.pre,List.getElem?_take_of_lt ω];exact h1
  have g:ps.Nodup:=by rw[<-S.pre];exact S.nd.sublist (List.take_sublist _ _)
  refine⟨u,D,?_⟩;rcases S.par y (Am hp) with k|k
  ·exact .inl ⟨k,G6 g hp hu k⟩
  ·obtain⟨c,e⟩:=G8 (n:=s⁻¹+1) k
   refine .inr ⟨.inl k,c,e,?_⟩;have q:=x.cell y c e;rw[G7 g hp hu (by show scope.names.lookup y≠_;rw[k];decide)] at q;exact q
 ·exact d.hok.fresh (Nat.le_of_lt (x.above y c (PySem.mem_of_lookup h)))
 ·unfold start
  show _=N.length;rw[AJ,Aa,List.length_replicate];(first|lia|omega)
def G_{CX:eP}{P:Program}{w:World}{K:Af}{mg:Str->Option Value}{base:Heap}{k:Nat}{f:Addr}{name a:Str}{p:Arguments}{i:List Stmt}{scope:Scope}{z kV C D c ct oc:Value}{F od:Option Addr}{O:Array (Option Value)}{N ps:List Str}{sp:Sp}(lk:K.lookup f=some ⟨oc,od,.func (PySem.W.fnOf name a p i scope z kV C D F c ct),O⟩)(T:PySem.W.codeIn K c a=true)(S:zm N ps scope)(len:∀vs H Q E,sp vs H Q E->vs.length=ps.length)(aU:∀(A:Around)(outer:List Env)(s:Shared)(H:Hp)(vs:List V)(Q:VK)(E:XK),Room k (A.deeper (envOfC a scope s⁻¹ f c))->sp vs H Q E->
   ∃t,PSs (bG CX P w K mg base N a scope f c A outer s H E) i t/\t {nx:=fun _ H'=>Q .non H',rt:=Q} (start N vs) H):
  ar P w K mg base CX (k+1) f (PySem.W.fnOf name a p i scope z kV C D F c ct) ps sp:=by
 refine⟨len,fun A outer s H args us vs Q E hr g hb r G=>?_⟩;have Z:=len _ _ _ _ G;have M:K.In s.heap:=g.mod.kin.keeps fun b o e=>(g.bs b o e).1;have l:s.heap.NoLimit:=g.mod.nolimit.keeps fun b o e=>(g.bs b o e).1;have d_:∀y∈ps.zip us,scope.names.lookup y.1=some .local\/(scope.names.lookup y.1=some .cell/\((Bp (s⁻¹+1) scope.names []).lookup y.1).isSome=true):=fun⟨n,v⟩ hy=>by
  rcases S.par n (List.of_mem_zip hy).1 with q|q
  ·exact .inl q
  ·exact .inr ⟨q,PySem.W.cellsFrom_some _ _ _ (.inl q)⟩
 refine codeAny_call_function hr.depth (M _ _ lk) rfl S.co S.gen rfl (PySem.W.codeRec_of M T) (hb _ _ _ _ ?_);refine wpAny_newFunctionEnv_cells S.kind d_ fun env U L x=>?_;subst U;refine⟨l.keeps x.toInCall.keep,codeAny_func ?_⟩;obtain⟨t,Y,hq⟩:=aU A outer s H vs Q E (hr.deeper _) G;have I:Inv (bG CX P w K mg base N a scope f c A outer s H E) [] (start N vs) H L:=G9 S hr.hd g Z r x;refine wpAny_mono (Y [] L (start N vs) H _ I hq) (fun X s' d=>?_) fun e s' d=>d;have fin:∀{h:St}{H':Hp}{v:V}{u:Value},Inv (bG CX P w K mg base N a scope f c A outer s H E) [] h H' s'->RelV v u->Q v H'->CE outer P w H s Q u s':=
  fun{h H' v u} J j q=>⟨v,H',J.os,J.bare,J.base,J.hok,j,q⟩
 cases X with
 |ret u=>
  obtain⟨v,h,H',J,j,q⟩:=d;exact fin J j q
 |next=>
  obtain⟨h,H',J,q⟩:=d;exact fin (v:=V.non) (u:=Value.none) J rfl q
 |brk=>
  obtain⟨_,_,_,q⟩:=d;exact False.elim q
 |cont=>
  obtain⟨_,_,_,q⟩:=d;exact False.elim q
section
variable{X:Cx}{x:Str}{p pos:Pos}{e:Expr}{es:List Expr}{t:TA}{id T:String}{r:List V->Hp->VK->Prop}
def mX(r:List V->Hp->VK->Prop)(t:TA):TE:=fun σ H Q=>t σ H fun vs H1=>r vs H1 Q
def zi(hc:fj X (.builtin id) r)(hg:Gl X x)(f:X.mg x=none)(g:A4 x=some (.builtin id))(i:PA X (e::es) t)(hn:x≠"__name__":=by decide)(j:(x==("__debug__":Str))=false:=by decide)
  (l:starEach (e::es) X.env=(false,eval e X.env)::starEach es X.env:=by rfl) (a:(backTo pos (starEach es X.env)).any (·.1)=false:=by rfl):PE X (.Call (.Name x p) (e::es) [] pos) (mX r t):=by
 intro aa s σ H Q I h;refine wpAny_Call_Name_kw (iP I hg f g ?_ hn j);exact PyProof.Rows.callWith_builtin1 (aT (i pos aa s σ H _ I h) fun us b ⟨vs,H1,o,c,d⟩=>hc aa b σ H1 vs us Q o c d) l a
def qf(hc:fj X (.type T) r)(hg:Gl X x)(f:X.mg x=none)(g:A4 x=some (.type T))(i:PA X (e::es) t)(hn:x≠"__name__":=by decide)(j:(x==("__debug__":Str))=false:=by decide)
  (l:starEach (e::es) X.env=(false,eval e X.env)::starEach es X.env:=by rfl) (a:(backTo pos (starEach es X.env)).any (·.1)=false:=by rfl):PE X (.Call (.Name x p) (e::es) [] pos) (mX r t):=by
 intro aa s σ H Q I h;refine wpAny_Call_Name_kw (iP I hg f g ?_ hn j);exact PyProof.Rows.callWith_type1 (aT (i pos aa s σ H _ I h) fun us b ⟨vs,H1,o,c,d⟩=>hc aa b σ H1 vs us Q o c d) l a
end
end L2
namespace HT
open PySem PyProof.Rows
def lexLt:List Int->List Int->Bool
 |[],[]=>false
 |[],_::_=>true
 |_::_,[]=>false
 |x::xs,y::ys=>if x=y then lexLt xs ys else decide (x<y)
def qj(x y:Int)(xs ys:List Int):lexLt (x::xs) (y::ys)=if x=y then lexLt xs ys else decide (x<y):=rfl
def LO:lexLt [] []=false:=rfl
section
open PySem.SeqAt
open PySem.AutoSeq1 (wpAny_loadPart')
open PySem.MeetsSeq PySem.MeetsSeq2 PySem.MeetsSeq3
end
section
variable{prog:Program}{w:World}{A:Around}{E:Ω}{s:Shared}
def dD(n d:Nat):Option Int->Nat
 |none=>d
 |some v=>if v<0 then(v+(n:Int)).toNat else min v.toNat n
def G'(n d:Nat):dD n d none=d:=rfl
def Hf(n d k:Nat):dD n d (some (k:Int))=min k n:=by
 show(if(k:Int)<0 then((k:Int)+(n:Int)).toNat else min (k:Int).toNat n)=min k n;rw[if_neg ω,Int.toNat_natCast]
end
end HT
namespace L2
open PySem PySem.Spec PyProof.Rows
abbrev TO:=St->Hp->(Option Int->Hp->Prop)->Prop
def PO(X:Cx)(e:Option Expr)(t:TO):Prop:=
 ∀(aa:Ψ)(s:Shared)(σ:St)(H:Hp)(Q:Option Int->Hp->Prop),Inv X aa σ H s->t σ H Q->
  wpAny (model X.prog X.w) X.A (evalPart e X.env) (fun u s'=>∃o H',Inv X aa σ H' s'/\IsPart u o/\Q o H') X.xe s
def qo:TO:=fun _ H Q=>Q none H
def qx(t:TE):TO:=fun σ H Q=>t σ H fun x H1=>∃i,x=.int i/\Q (some i) H1
def intsAre_of{ns:List Int}:∀{us:List Value},Vals (ns.map V.int) us->IntsAre us ns:=by
 induction ns with
 |nil=>intro us r;rw[List.map_nil] at r;cases r;exact .nil
 |cons n ns ih=>
  intro us r;rw[A5] at r;cases r with
  |cons r1 r2=>
   obtain⟨t,e⟩:=r1;subst e;exact .cons n t (ih r2)
section
variable{X:Cx}{e:Expr}{te:TE}{lo hi:Option Expr}{tl th:TO}{pos p2:Pos}
def kx:PO X none qo:=by
 intro aa s σ H Q I h;rw[evalPart_none];exact Ao ⟨none,H,I,.none,h⟩
def ky(h:PE X e te):PO X (some e) (qx te):=by
 intro aa s σ H Q I hw;rw[evalPart_some];refine aT (h aa s σ H _ I hw) fun u d ⟨x,H1,c,a,b⟩=>?_;obtain⟨i,rfl,q⟩:=b;obtain⟨t,rfl⟩:=a;exact⟨some i,H1,c,.int i t,q⟩
def Hh(X:Cx)(r:V->Option Int->Option Int->Hp->VK->Prop):Prop:=
 ∀(aa:Ψ)(s:Shared)(σ:St)(H:Hp)(x:V)(v vl a:Value)(lo hi:Option Int)(b:Addr)(Q:VK),Inv X aa σ H s->RelV x v->s.heap.IsSliceOf b vl a .none->IsPart vl lo->IsPart a hi->r x lo hi H Q->
  ∃T id,typeLookup (.type T) "__getitem__"=pure (some (.builtin id))/\s.TypeIs v T/\wpAny (model X.prog X.w) X.A (getItem v (.ref b)) (EP X aa σ Q) X.xe s
def qy(r:V->Option Int->Option Int->Hp->VK->Prop)(te:TE)(tl th:TO):TE:=fun σ H Q=>te σ H fun x H1=>tl σ H1 fun l H2=>th σ H2 fun u a=>r x l u a Q
def kC{r:V->Option Int->Option Int->Hp->VK->Prop}(hr:Hh X r)(D:PE X e te)(E:PO X lo tl)(hu:PO X hi th):PE X (.Subscript e (.Slice lo hi none p2) pos) (qy r te tl th):=by
 intro aa s σ H Q I h;refine Subscript_ (aT (D aa s σ H _ I h) fun v f ⟨x,H1,F,g,i⟩=>?_);refine wpAny_Slice (aT (E aa f σ H1 _ F i) fun vl j ⟨l,H2,G,pl,o⟩=>aT (hu aa j σ H2 _ G o) fun c a ⟨u,d,I3,p,y⟩=>?_);rw[evalPart_none];refine Ao ?_;have J:Inv X aa σ d {a with heap:=a.heap.push {cls:=.type "slice",data:=.fields #[vl,c,.none]}}:=I3.kept (t':=a.toks) fun b L q=>Ai _ q;obtain⟨T,id,z,C,hg⟩:=hr aa {a with heap:=a.heap.push {cls:=.type "slice",data:=.fields #[vl,c,.none]}} σ d x v vl c l u a⁻¹ Q J g (Heap.IsSliceOf.new ..) pl p y;show wpAny (model X.prog X.w) X.A (subscriptTail e (.Slice lo hi none p2) v (.ref a⁻¹)) (EP X aa σ Q) X.xe {a with heap:=a.heap.push {cls:=.type "slice",data:=.fields #[vl,c,.none]}};exact tail_any (ops:=[.ref a⁻¹,v]) C z hg (by with_unfolding_all rfl)
def cI(xs:List V)(lo hi:Option Int):List V:=(xs.drop (HT.dD xs.length 0 lo)).take (HT.dD xs.length xs.length hi-HT.dD xs.length 0 lo)
def LP(xs:List V)(lo hi:Option Int):(cI xs lo hi).length<=xs.length:=by
 unfold cI;rw[List.length_take,List.length_drop];(first|lia|omega)
end
def eR(n:Nat)(i:Int):Option Nat:=if 0<=i then(if i<n then some i.toNat else none) else if -(n:Int)<=i then some (i+n).toNat else none
def atI{a:Type}(xs:List a)(i:Int):Option a:=(eR xs.length i).bind fun j=>xs[j]?
def Hj{n:Nat}{i:Int}{j:Nat}(h:eR n i=some j):seqIndex? i n=some j/\j<n/\-(n:Int)<=i/\i<n:=by
 unfold eR at h
 by_cases a:0<=i
 ·rw[if_pos a] at h
  by_cases h1:i<n
  ·rw[if_pos h1] at h
   have e:i.toNat=j:=AS h;exact⟨by rw[seqIndex_of a h1,e],ω,ω,h1⟩
  ·rw[if_neg h1] at h;cases h
 ·rw[if_neg a] at h
  by_cases h1:-(n:Int)<=i
  ·rw[if_pos h1] at h
   have e:(i+n).toNat=j:=AS h;exact⟨by rw[seqIndex_neg ω h1,e],ω,h1,ω⟩
  ·rw[if_neg h1] at h;cases h
def Hk{a:Type}{xs:List a}{i:Int}{v:a}(h:atI xs i=some v):∃j,seqIndex? i xs.length=some j/\xs[j]?=some v/\j<xs.length/\-(xs.length:Int)<=i/\i<xs.length:=by
 unfold atI at h;cases e:eR xs.length i with
 |none=>rw[e] at h;cases h
 |some j=>
  rw[e] at h;obtain⟨h1,h2,b,c⟩:=Hj e;exact⟨j,h1,h,h2,b,c⟩
def zh{a:Type}{xs:List a}{j:Nat}{v:a}(h:xs[j]?=some v):atI xs (j:Int)=some v:=by
 have b:j<xs.length:=(List.getElem?_eq_some_iff.mp h).1;have e:eR xs.length (j:Int)=some j:=by
  unfold eR;rw[if_pos ω,if_pos ω];simp
 unfold atI;rw[e];exact h
def LQ{a:Type}(xs:List a)(v:a):atI (xs++[v]) (-1)=some v:=by
 have b:(xs++[v]).length=xs.length+1:=by simp
 have e:eR (xs++[v]).length (-1)=some xs.length:=by
  unfold eR;rw[b,if_neg ξ,if_pos ω]
  congr 1
  (first|lia|omega)
 unfold atI;rw[e];show(xs++[v])[xs.length]?=some v;simp
def LR(b:Expr):Prop:=∀o i,subscripted b false o i=operate [o,i] (getItem o i)
def Ed(X:Cx)(r:R2):Prop:=
 ∀(aE slice:Expr)(aa:Ψ)(s:Shared)(σ:St)(H:Hp)(x y:V)(v u:Value)(Q:VK),Inv X aa σ H s->RelV x v->RelV y u->r x y H Q->
  subscripted slice false v u=operate [v,u] (getItem v u)->wpAny (model X.prog X.w) X.A (subscriptTail aE slice v u) (EP X aa σ Q) X.xe s
def Hl(X:Cx)(id:String)(r:V->List V->Hp->VK->Prop):Prop:=
 ∀(aa:Ψ)(s:Shared)(σ:St)(H:Hp)(x:V)(xs:List V)(v:Value)(us:List Value)(Q:VK),Inv X aa σ H s->RelV x v->Vals xs us->r x xs H Q->
  wpAny (model X.prog X.w) X.A (call (.builtin id) (v::us)) (EP X aa σ Q) X.xe s
section
variable{X:Cx}{a b:Expr}{ta tb:TE}{pos:Pos}
def zu{r:R2}(hr:Ed X r)(f:PE X a ta)(hb:PE X b tb)(g:LR b):PE X (.Subscript a b pos) (bI r ta tb):=by
 intro aa s σ H Q I h;exact Subscript_ (kr f hb I h fun v u c x y H2 i d e q=>hr a b aa c σ H2 x y v u Q i d e q (g _ _))
def fA(K:Af):R2:=fun x y H Q=>∃p xs i v,x=.ref p/\y=.int i/\SqL K H p xs/\atI xs i=some v/\Q v H
def qD(K:Af):R2:=fun x y H Q=>∃p xs i v,x=.ref p/\y=.int i/\SqT K H p xs/\atI xs i=some v/\Q v H
def zr:Ed X (fA X.K):=by
 intro aE slice aa s σ H x y v u Q I e f h b;obtain⟨p,xs,i,z,rfl,rfl,hq,g,q⟩:=h;cases e;obtain⟨t,rfl⟩:=f;obtain⟨ad,r,pl,hz⟩:=I.list hq;obtain⟨j,h1,h2,D,l,o⟩:=Hk g;obtain⟨w,c,A⟩:=r.get h2;have C:=r.length;have hn:=dn;have fin:EP X aa σ Q w s:=⟨z,H,I,A,q⟩
 by_cases d:0<=i
 ·have a:i.toNat=j:=by
   rw[seqIndex_of d o] at h1;exact AS h1
  exact item_listR pl.isList d ω (by rw[a];simpa using c) fin b
 ·have a:(i+(ad.toArray.size:Int)).toNat=j:=by
   rw[seqIndex_neg ω l] at h1;rw[AC,<-C];exact AS h1
  exact subscriptTail_builtinR (x:=w) pl.isList.typeIs slot_list_getitem.lookup
   (wpAny_getItem_list_neg (Q:=fun r s'=>r=w/\EP X aa σ Q r s') pl.isList ω (by rw[AC]<;>(first|lia|omega)) ω (by rw[a];simpa using c) ⟨rfl,fin⟩) b
def zD:Ed X (qD X.K):=by
 intro aE slice aa s σ H x y v u Q I a b h c;obtain⟨p,xs,i,z,rfl,rfl,hq,d,q⟩:=h;cases a;obtain⟨t,rfl⟩:=b;obtain⟨ad,r,pl,hz⟩:=I.tuple hq;obtain⟨j,h1,h2,l,o,A⟩:=Hk d;obtain⟨w,e,f⟩:=r.get h2;have g:=r.length;have hn:=dn;have fin:EP X aa σ Q w s:=⟨z,H,I,f,q⟩;exact subscriptTail_builtinR (x:=w) pl.typeIs slot_tuple_getitem.lookup
  (getItem_tuple (j:=j) (Q:=fun r s'=>r=w/\EP X aa σ Q r s') pl ω ω (by rw[AC,<-g];exact h1) (by simpa using e) ⟨rfl,fin⟩) c
def LU(ad:List Value)(n j:Nat)(u:Value):Obj.mapSeq (·.setIfInBounds j u) {cls:=.type "list",data:=.seq ad.toArray n}={cls:=.type "list",data:=.seq (ad.set j u).toArray n}:=by
 simp[Obj.mapSeq]
def Inv.lst{aa:Ψ}{σ:St}{H:Hp}{s:Shared}{p:Addr}{xs:List V}(I:Inv X aa σ H s)(h:H p=some (.lst xs)):∃(ad:List Value)(n:Nat),Vals xs ad/\s.heap.get? p=some {cls:=.type "list",data:=.seq ad.toArray n}/\xs.length<=sizeLine:=by
 obtain⟨z,ad,n,r,e⟩:=I.hok p _ h;exact⟨ad,n,r,e,z⟩
def Inv.lstUpd{aa:Ψ}{σ:St}{H:Hp}{s:Shared}{p:Addr}{xs ys:List V}{ad its':List Value}{n a:Nat}{f:Obj->Obj}(I:Inv X aa σ H s)(h:H p=some (.lst xs))(d:s.heap.get? p=some {cls:=.type "list",data:=.seq ad.toArray n})(c:f {cls:=.type "list",data:=.seq ad.toArray n}={cls:=.type "list",data:=.seq its'.toArray a})(r:Vals ys its')(hz:ys.length<=sizeLine)(t:Nat):Inv X aa σ (upd H p (.lst ys)) {s with heap:=s.heap.update p f,toks:=t}:=by
 have e:(s.heap.update p f).get? p=some {cls:=.type "list",data:=.seq its'.toArray a}:=by
  rw[Heap.get?_update_self f d (by rw[c]<;>rfl),c]
 refine I.write (x:=p) (e:=p) (by rw[h];trivial) (.inl rfl) (fun b u hb q=>(Heap.get?_update_other _ _ (Ne.symm hb)).trans q) ⟨_,e⟩ ?_;exact⟨hz,its',a,r,e⟩
def LV:V->V->V->Hp->(Hp->Prop)->Prop:=fun o i v H Q=>∃p xs k j,o=.ref p/\i=.int k/\H p=some (.lst xs)/\eR xs.length k=some j/\Q (upd H p (.lst (xs.set j v)))
def set_list:pP X LV:=by
 intro aa s σ H o i v y z u Q I g l w h;obtain⟨p,xs,k,j,rfl,rfl,hp,x,q⟩:=h;cases g;obtain⟨t,rfl⟩:=l;obtain⟨ad,n,r,a,hz⟩:=I.lst hp;obtain⟨h1,h2,c,d⟩:=Hj x;have b:=r.length;have hn:=dn;have f:Inv X aa σ (upd H p (.lst (xs.set j v))) {s with heap:=s.heap.update p (Obj.mapSeq (·.setIfInBounds j u))}:=
  I.lstUpd hp a (LU ad n j u) (r.set w j) (by rw[List.length_set];exact hz) s.toks
 by_cases e:0<=k
 ·have hk:k.toNat=j:=by
   rw[seqIndex_of e d] at h1;exact AS h1
  exact PySem.W.ki_setAt a e ω (by rw[AC,<-b];exact d) (by rw[hk];exact⟨_,f,q⟩)
 ·have hk:(k+(ad.toArray.size:Int)).toNat=j:=by
   rw[seqIndex_neg ω c] at h1;rw[AC,<-b];exact AS h1
  exact PySem.W.ki_setBack a ω (by rw[AC,<-b];exact c) ω (by rw[hk];exact⟨_,f,q⟩)
def LW(lo hi:Option Int)(n:Nat):(sliceBounds lo hi none n).1=((HT.dD n 0 lo:Nat):Int)/\(sliceBounds lo hi none n).2.1=((HT.dD n n hi:Nat):Int)/\(sliceBounds lo hi none n).2.2=1:=by
 refine⟨?_,?_,rfl⟩
 ·cases lo with
  |none=>simp[sliceBounds,HT.dD]
  |some i=>
   simp only[sliceBounds,HT.dD,Option.getD_none,show(1:Int)>0 from ξ,if_true]
   by_cases h:i<0
   ·simp only[h,if_true]<;>(first|lia|omega)
   ·simp only[h,if_false]<;>(first|lia|omega)
 ·cases hi with
  |none=>simp[sliceBounds,HT.dD]
  |some i=>
   simp only[sliceBounds,HT.dD,Option.getD_none,show(1:Int)>0 from ξ,if_true]
   by_cases h:i<0
   ·simp only[h,if_true]<;>(first|lia|omega)
   ·simp only[h,if_false]<;>(first|lia|omega)
def LX(ad:List Value)(lo hi:Option Int):slicePick ad.toArray lo hi none=((ad.drop (HT.dD ad.length 0 lo)).take (HT.dD ad.length ad.length hi-HT.dD ad.length 0 lo)).toArray:=by
 obtain⟨h1,h2,a⟩:=LW lo hi ad.toArray.size;unfold slicePick;rw[h1,h2,a];simp only[sliceRange_one,pick_run,AC]<;>rfl
def gx(K:Af):V->Option Int->Option Int->Hp->VK->Prop:=fun x lo hi H Q=>∃a xs,x=.ref a/\SqL K H a xs/\∀p,H p=none->Q (.ref p) (upd H p (.lst (cI xs lo hi)))
def kG:Hh X (gx X.K):=by
 intro aa s σ H x v vl i lo hi j Q I d e pl f h;obtain⟨a,xs,rfl,hx,q⟩:=h;cases d;obtain⟨ad,r,c,hz⟩:=I.list hx;have g:=r.length;refine⟨"list",_,slot_list_getitem.lookup,c.isList.typeIs,?_⟩;refine wpAny_getItem_list_slice c.isList e pl f .none (by simp) ?_ (by rw[AC]<;>(first|lia|omega));rw[LX,<-g];refine⟨.ref s⁻¹,_,I.laid (t':=s.toks) (o:=.lst (cI xs lo hi)) (fun b l q=>Ai _ q) (Ae _) ?_,rfl,q _ (I.hok.fresh (Ae _))⟩;exact⟨Ag (LP xs lo hi) hz,_,0,(r.drop (HT.dD xs.length 0 lo)).take (HT.dD xs.length xs.length hi-HT.dD xs.length 0 lo),AK _ rfl⟩
def gz:V->Bool
 |.non=>true
 |.bl _=>true
 |.int _=>true
 |.str _=>true
 |_=>false
def fB:V->V->Bool
 |.non,.non=>true
 |.bl a,.bl b=>a==b
 |.bl a,.int b=>(if a then 1 else 0)==b
 |.int a,.bl b=>a==(if b then 1 else 0)
 |.int a,.int b=>a==b
 |.str a,.str b=>a==b
 |_,_=>false
def LY{A:Around}{s:Shared}{y x:V}{u v:Value}(d:RelV y u)(c:RelV x v)(e:gz y=true)(fx:gz x=true):SeqAt.EqAt A s u v (fB y x):=by
 cases y with
 |non=>
  cases d;cases x with
  |non=>cases c;exact SeqAt.EqAt.same _
  |bl b=>cases c;exact SeqAt.EqAt.none_bool b
  |int b=>obtain⟨t,rfl⟩:=c;exact SeqAt.EqAt.none_int b t
  |str b=>obtain⟨t,rfl⟩:=c;exact SeqAt.EqAt.none_str b t
  |_=>exact absurd (show false=true from fx) Aw
 |bl a=>
  cases d;cases x with
  |non=>cases c;exact SeqAt.EqAt.bool_none a
  |bl b=>cases c;exact SeqAt.EqAt.bool_bool a b
  |int b=>obtain⟨t,rfl⟩:=c;exact SeqAt.EqAt.bool_int a b t
  |str b=>obtain⟨t,rfl⟩:=c;exact SeqAt.EqAt.bool_str a b t
  |_=>exact absurd (show false=true from fx) Aw
 |int a=>
  obtain⟨t',rfl⟩:=d;cases x with
  |non=>cases c;exact SeqAt.EqAt.int_none a t'
  |bl b=>cases c;exact SeqAt.EqAt.int_bool a t' b
  |int b=>obtain⟨t,rfl⟩:=c;exact SeqAt.EqAt.int_int a t' b t
  |str b=>obtain⟨t,rfl⟩:=c;exact SeqAt.EqAt.int_str a t' b t
  |_=>exact absurd (show false=true from fx) Aw
 |str a=>
  obtain⟨t',rfl⟩:=d;cases x with
  |non=>cases c;exact SeqAt.EqAt.str_none a t'
  |bl b=>cases c;exact SeqAt.EqAt.str_bool a t' b
  |int b=>obtain⟨t,rfl⟩:=c;exact SeqAt.EqAt.str_int a t' b t
  |str b=>obtain⟨t,rfl⟩:=c;exact SeqAt.EqAt.str_str a t' b t
  |_=>exact absurd (show false=true from fx) Aw
 |_=>exact absurd (show false=true from e) Aw
def iZ(x:V)(u:Value):Bool:=match u with
 |.none=>fB .non x
 |.bool b=>fB (.bl b) x
 |.int i _=>fB (.int i) x
 |.str z _=>fB (.str z) x
 |_=>false
def Ee{x y:V}{u:Value}(r:RelV y u)(f:gz y=true):iZ x u=fB y x:=by
 cases y with
 |non=>cases r;rfl
 |bl b=>cases r;rfl
 |int i=>obtain⟨t,rfl⟩:=r;rfl
 |str z=>obtain⟨t,rfl⟩:=r;rfl
 |_=>exact absurd (show false=true from f) Aw
def Ef{A:Around}{s:Shared}{x:V}{v:Value}(a:RelV x v)(fx:gz x=true):∀{xs:List V}{us:List Value},Vals xs us->xs.all gz=true->∀u∈us,SeqAt.EqAt A s u v (iZ x u)
 |_,_,.nil,_=>fun u hu=>by cases hu
 |y::xs,u::us,.cons r t,f=>fun b hu=>by
  rw[List.all_cons,AU] at f;rcases List.mem_cons.mp hu with rfl|hu
  ·rw[Ee r f.1];exact LY r a f.1 fx
  ·exact Ef a fx t f.2 b hu
def zo:fj X (.builtin "len") (fun xs H Q=>∃p ys,xs=[.ref p]/\(SqL X.K H p ys\/SqT X.K H p ys)/\Q (.int ys.length) H):=by
 intro aa s σ H xs us Q I r h;obtain⟨p,ys,rfl,hq,q⟩:=h;obtain⟨u,rfl,c⟩:=vals1 r;cases c;have hn:=dn;rcases hq with hq|hq
 ·obtain⟨ad,a,pl,hz⟩:=I.list hq
  have b:=a.length;exact Calls.call_len_list pl.isList (by simp only[AC]<;>(first|lia|omega)) ⟨.int ys.length,H,I.tok _,⟨s.toks+1,by rw[AC,b]⟩,q⟩
 ·obtain⟨ad,a,pl,hz⟩:=I.tuple hq
  have b:=a.length;exact len_tuple pl (by simp only[AC]<;>(first|lia|omega)) ⟨.int ys.length,H,I.tok _,⟨s.toks+1,by rw[AC,b]⟩,q⟩
def yh:fj X (.type "list") (fun xs H Q=>∃p ys,xs=[.ref p]/\(SqL X.K H p ys\/SqT X.K H p ys)/\∀l,H l=none->Q (.ref l) (upd H l (.lst ys))):=by
 intro aa s σ H xs us Q I r h;obtain⟨p,ys,rfl,hq,q⟩:=h;obtain⟨u,rfl,f⟩:=vals1 r;cases f;have fin:∀(ad:List Value),Vals ys ad->ys.length<=sizeLine->∀(h':Heap)(c:Nat),(∀b o',s.heap.get? b=some o'->h'.get? b=some o')->
   h'.get? s⁻¹=some {cls:=.type "list",dict:=none,data:=.seq ad.toArray c,slots:=#[]}->EP X aa σ Q (.ref s⁻¹) {s with heap:=h'}:=fun ad a hz h' c kp e=>
  ⟨.ref s⁻¹,_,I.laid (t':=s.toks) kp (Ae _) (show zW X.prog X.w _ h' _ (.lst ys) from⟨hz,ad,c,a,e⟩),rfl,q _ (I.hok.fresh (Ae _))⟩
 rcases hq with hq|hq
 ·obtain⟨ad,a,pl,hz⟩:=I.list hq
  have g:=a.length;obtain⟨o,d,hc,n,hd⟩:=pl.isList;exact call_list_seq p (.inl rfl) d hc hd (fun h' c kp e=>fin ad a hz h' c kp e) (by simp only[AC]<;>(first|lia|omega))
 ·obtain⟨ad,a,pl,hz⟩:=I.tuple hq
  have g:=a.length;obtain⟨o,d,hc,n,hd⟩:=pl;exact call_list_seq p (.inr rfl) d hc hd (fun h' c kp e=>fin ad a hz h' c kp e) (by simp only[AC]<;>(first|lia|omega))
def LZ:fj X (.type "tuple") (fun xs H Q=>∃p ys,xs=[.ref p]/\((SqL X.K H p ys/\∀l,H l=none->Q (.ref l) (upd H l (.tup ys)))\/(SqT X.K H p ys/\Q (.ref p) H))):=by
 intro aa s σ H xs us Q I r h;obtain⟨p,ys,rfl,h⟩:=h;obtain⟨u,rfl,c⟩:=vals1 r;cases c;rcases h with ⟨hq,q⟩|⟨hq,q⟩
 ·obtain⟨ad,a,pl,hz⟩:=I.list hq
  have f:=a.length;refine call_tuple_list pl.isList (fun h' kp=>?_) (by simp only[AC]<;>(first|lia|omega));have I1:Inv X aa σ H {s with heap:=h'}:=I.kept (t':=s.toks) kp;have d:Inv X aa σ (upd H h'.objs.size (.tup ys)) {s with heap:=h'.push {cls:=.type "tuple",data:=.seq ad.toArray}}:=
   I1.laid (t':=s.toks) (fun b o e=>Ai _ e) (Ae _) (show zW X.prog X.w _ _ _ (.tup ys) from⟨hz,ad,a,IsTup.new _ _⟩)
  exact⟨.ref h'.objs.size,_,d,rfl,q _ (I1.hok.fresh (Ae _))⟩
 ·obtain⟨ad,a,pl,hz⟩:=I.tuple hq
  exact call_tuple_same pl ⟨.ref p,H,I,rfl,q⟩
def Hm(K:Af)(T:String)(x:V)(H:Hp):Prop:=match x with
 |.str _=>T="str"
 |.int _=>T="int"
 |.ref p=>(T="list"/\∃xs,SqL K H p xs)\/(T="tuple"/\∃o,K.lookup p=some o/\o.cls=.type "tuple"/\o.dict=none) \/
   (T="dict"/\((∃kvs,H p=some (.dK kvs))\/∃kvs,H p=some (.dT kvs)))\/(T="set"/\∃S n,H p=some (.set S n))
 |_=>False
def L3{aa:Ψ}{σ:St}{H:Hp}{s:Shared}{T:String}{x:V}{v:Value}(I:Inv X aa σ H s)(r:RelV x v)(ty:Hm X.K T x H):s.TypeIs v T/\∀a,v=.ref a->∃b,s.heap.get? a=some b/\b.dict=none:=by
 cases x with
 |str z=>
  obtain⟨t,rfl⟩:=r;cases(show T="str" from ty);exact⟨typeIs_str s z t,fun _ e=>nomatch e⟩
 |int i=>
  obtain⟨t,rfl⟩:=r;cases(show T="int" from ty);exact⟨typeIs_int s i t,fun _ e=>nomatch e⟩
 |ref p=>
  cases r;rcases ty with ⟨rfl,xs,hq⟩|⟨rfl,o,hk,hc,hd⟩|⟨rfl,hk⟩|⟨rfl,S,n,hk⟩
  ·obtain⟨ad,_,pl,_⟩:=I.list hq
   refine⟨pl.isList.typeIs,fun a e=>?_⟩;cases e;obtain⟨o,n,e,c,hd,_⟩:=pl;exact⟨o,e,hd⟩
  ·refine⟨⟨o,I.kIn p o hk,hc⟩,fun a e=>?_⟩
   cases e;exact⟨o,I.kIn _ o hk,hd⟩
  ·have z:∃o,s.heap.get? p=some o/\o.ExactDict:=by
    rcases hk with ⟨kvs,hk⟩|⟨kvs,hk⟩
    ·obtain⟨_,_,_,_,o,_,_,e,ex,_⟩:=I.hok p _ hk
     exact⟨o,e,ex⟩
    ·obtain⟨_,_,_,_,o,_,_,e,ex,_⟩:=I.hok p _ hk
     exact⟨o,e,ex⟩
   obtain⟨o,e,ex⟩:=z;refine⟨⟨o,e,ex.1⟩,fun a e2=>?_⟩;cases e2;exact⟨o,e,ex.2.1⟩
  ·obtain⟨o,_,_,_,e,ex,_⟩:=I.hok p _ hk
   refine⟨⟨o,e,ex.1⟩,fun a e2=>?_⟩;cases e2;exact⟨o,e,ex.2.1⟩
 |_=>exact False.elim ty
def L4(K:Af)(T:String)(r:V->List V->Hp->VK->Prop)(to:TE)(t:TA):TE:=fun σ H Q=>to σ H fun x H1=>Hm K T x H1/\t σ H1 fun xs H2=>r x xs H2 Q
variable{o e:Expr}{es:List Expr}{to:TE}{t:TA}{name:Str}{bW aA:Pos}{T id:String}{r:V->List V->Hp->VK->Prop}
def qE(p:PlainAttrs T)(slot:Slot T name id)(q:typeOf (.builtin id)=pure (.type "method_descriptor"))(u:Hl X id r)(w:PE X o to)(y:PA X (e::es) t)(z:attributeBase o name X.env (eval o X.env)=eval o X.env:=by rfl)
  (A:((backTo aA (starEach (e::es) X.env)).all (fun x=>!x.1)&&(backToKw aA (keywordEach [] X.env)).all (fun x=>x.1.isSome)
   && decide ((e::es).length+([]:List Keyword).length+(if([]:List Keyword).isEmpty then 0 else 1)<30))=true:=by rfl)
  (C:(bW.endLine==aA.line)=true:=by rfl) (D:starEach (e::es) X.env=(false,eval e X.env)::starEach es X.env:=by rfl) (E:(backTo aA (starEach es X.env)).any (·.1)=false:=by rfl) :
  PE X (.Call (.Attribute o name bW) (e::es) [] aA) (L4 X.K T r to t):=by
 intro aa s σ H Q I h;refine wpAny_Call_method_late z A C rfl (aT (w aa s σ H _ I h) fun v f ⟨x,H1,d,b,ty,g⟩=>?_);obtain⟨h1,h2⟩:=L3 d b ty;refine⟨T,id,p,slot,q,h1,h2,?_⟩;have c:=y aA aa f σ H1 _ d g;rw[D] at c ⊢;refine Calls.callWith_builtin (by show(false|| (backTo aA (starEach es X.env)).any (·.1))=false;rw[E]<;>rfl) (Calls.evalArgs_plain ?_);exact aT c fun us i ⟨vs,H2,F,j,l⟩=>u aa i σ H2 x vs v us Q F b j l
end
def Eg(X:Cx)(id:String)(r:V->List V->Hp->VK->Prop):Prop:=
 ∀(aa:Ψ)(s:Shared)(σ:St)(H:Hp)(x:V)(xs:List V)(v:Value)(us:List Value)(Q:VK),Inv X aa σ H s->RelV x v->Vals xs us->r x xs H Q->
  wpAny (model X.prog X.w) X.A (call (.builtin id) (v::us)) (EP X aa σ Q) X.xe s
def Vals.one{x:V}{us:List Value}(h:Vals [x] us):∃u,us=[u]/\RelV x u:=by
 cases h with|cons r t=>cases t;exact⟨_,rfl,r⟩
def Vals.two{x y:V}{us:List Value}(h:Vals [x,y] us):∃u v,us=[u,v]/\RelV x u/\RelV y v:=by
 cases h with|cons r t=>obtain⟨v,rfl,q⟩:=Vals.one t;exact⟨_,_,rfl,r,q⟩
def Vals.zero:∀{us:List Value},Vals [] us->us=[]
 |_,.nil=>rfl
def Vals.eraseIdx:∀{xs:List V}{us:List Value}(i:Nat),Vals xs us->Vals (xs.eraseIdx i) (us.eraseIdx i)
 |_,_,_,.nil=>.nil
 |_,_,0,.cons _ t=>t
 |_,_,i+1,.cons r t=>.cons r (Vals.eraseIdx i t)
def Vals.reverse{xs:List V}{us:List Value}(h:Vals xs us):Vals xs.reverse us.reverse:=by
 induction h with
 |nil=>exact .nil
 |cons r t ih=>rw[List.reverse_cons,List.reverse_cons];exact Vals.append ih (.cons r .nil)
def Vals.rep{xs:List V}{us:List Value}(h:Vals xs us):∀k:Nat,Vals (Au k xs).flatten (Au k us).flatten
 |0=>.nil
 |k+1=>by
  rw[List.replicate_succ,List.replicate_succ,List.flatten_cons,List.flatten_cons];exact Vals.append h (Vals.rep h k)
def foldl_rep(ad:List Value):∀(k:Nat)(acc:List Value),
  List.foldl (fun x1 x2=>x1++x2) acc.toArray (Au k ad.toArray)=(acc++(Au k ad).flatten).toArray
 |0,acc=>by simp
 |k+1,acc=>by
  have e:acc.toArray++ad.toArray=(acc++ad).toArray:=by simp
  have e2:(acc++ad)++(Au k ad).flatten=acc++(Au (k+1) ad).flatten:=by
   rw[List.replicate_succ,List.flatten_cons,List.append_assoc]
  rw[<-e2,<-foldl_rep ad k (acc++ad),<-e,List.replicate_succ,List.foldl_cons]
section
variable{X:Cx}{aa:Ψ}{σ:St}{H:Hp}{s:Shared}{l b:Addr}{xs ys zs:List V}
def Inv.lset{ad its':List Value}{n:Nat}{f:Array Value->Array Value}{t':Nat}(I:Inv X aa σ H s)(a:H l=some (.lst xs))(e:s.heap.get? l=some {cls:=.type "list",data:=.seq ad.toArray n})(b:f ad.toArray=its'.toArray)(c:Vals ys its')(hz:ys.length<=sizeLine):Inv X aa σ (upd H l (.lst ys)) {s with heap:=s.heap.update l (Obj.mapSeq f),toks:=t'}:=by
 have q:=PySem.IsL.update e f;rw[b] at q;refine I.write (x:=l) (e:=l) (by rw[a];exact trivial) (.inl rfl) (fun b' u hb hu=>(Heap.get?_update_other s.heap (Obj.mapSeq f) (Ne.symm hb)).trans hu) ⟨_,q⟩ ?_;exact⟨hz,its',_,c,q⟩
def Inv.lnew{ad:List Value}{t':Nat}(I:Inv X aa σ H s)(a:Vals ys ad)(hz:ys.length<=sizeLine):Inv X aa σ (upd H s⁻¹ (.lst ys)) {s with heap:=s.heap.push {cls:=.type "list",data:=.seq ad.toArray},toks:=t'}:=
 I.laid (fun _ _ q=>Ai _ q) (Ae _) ⟨hz,ad,0,a,AK _ rfl⟩
def Inv.fresh(I:Inv X aa σ H s):H s⁻¹=none:=I.hok.fresh (Ae _)
def Inv.lstM(I:Inv X aa σ H s)(a:H l=some (.lst xs)):xs.length<=sizeLine/\∃(ad:List Value)(n:Nat),Vals xs ad/\xs.length=ad.length/\s.heap.get? l=some {cls:=.type "list",data:=.seq ad.toArray n}:=by
 obtain⟨z,ad,n,r,e⟩:=I.hok l _ a;exact⟨z,ad,n,r,r.length,e⟩
def L5{n:Nat}(h:n<=sizeLine):Builtin.List.listTooLong n=false:=by
 unfold Builtin.List.listTooLong;exact decide_eq_false ω
end
section
variable{X:Cx}
def zl7:V->List V->Hp->VK->Prop:=fun x vs H Q=>∃l xs y,x=.ref l/\vs=[y]/\H l=some (.lst xs)/\xs.length<sizeLine/\Q .non (upd H l (.lst (xs++[y])))
def yJ:Eg X "list.append" zl7:=by
 intro aa s σ H x vs v us Q I b c h;obtain⟨l,xs,y,rfl,rfl,a,hz,q⟩:=h;cases b;obtain⟨u,rfl,d⟩:=c.one;obtain⟨z,ad,n,r,f,e⟩:=I.lstM a;refine call_meets F.slot_list_append ⟨_,e,rfl⟩ F.entry_list_append (F.args_list_append_2 _ _) (PySem.list_append l ad.toArray n u (by rw[AC];(first|lia|omega))) ⟨e,?_⟩;refine⟨.non,_,I.lset (its':=ad++[u]) a e (by simp) (r.append (.cons d .nil)) ?_,rfl,q⟩;rw[AJ,List.length_singleton];(first|lia|omega)
def i0:R2:=fun x y H Q=>∃l b xs zs,x=.ref l/\y=.ref b/\H l=some (.lst xs)/\H b=some (.lst zs)/\xs.length+zs.length<=sizeLine/\∀p,H p=none->Q (.ref p) (upd H p (.lst (xs++zs)))
def m4:cx X (binaryOp .Add) i0:=by
 intro aa s σ H x y v u Q I c d h;obtain⟨l,b,xs,zs,rfl,rfl,f,g,hz,q⟩:=h;cases c;cases d;obtain⟨z,ad,n,r,o,e⟩:=I.lstM f;obtain⟨p,a,n2,i,w,e2⟩:=I.lstM g;refine PySem.P.add_list e e2 ?_ (by rw[AC,AC];(first|lia|omega));have j:ad.toArray++a.toArray=(ad++a).toArray:=by simp
 rw[j];exact⟨.ref _,_,I.lnew (t':=s.toks) (r.append i) (by rw[AJ];(first|lia|omega)),rfl,q _ I.fresh⟩
def Eh:R2:=fun x y H Q=>∃l k xs,x=.ref l/\y=.int k/\H l=some (.lst xs)/\-(2 ^ 63)<=k/\k<2 ^ 63/\xs.length*k.toNat<=sizeLine/\
 ∀p,H p=none->Q (.ref p) (upd H p (.lst (Au k.toNat xs).flatten))
def len_rep{a:Type}(xs:List a)(k:Nat):(Au k xs).flatten.length=k*xs.length:=by
 induction k with
 |zero=>simp
 |succ k ih=>rw[List.replicate_succ,List.flatten_cons,AJ,ih,Nat.succ_mul,Nat.add_comm]
def Ei:cx X (binaryOp .Mult) Eh:=by
 intro aa s σ H x y v u Q I g i h;obtain⟨l,k,xs,rfl,rfl,j,h1,h2,hz,q⟩:=h;cases g;obtain⟨t,rfl⟩:=i;obtain⟨z,ad,n,r,o,e⟩:=I.lstM j;have p:ad.toArray.size*k.toNat<=sizeLine:=by rw[AC,<-o];exact hz
 have c:¬ad.toArray.size*k.toNat>(2 ^ 63-1) / 8:=by
  have:(sizeLine:Nat)<=(2 ^ 63-1) / 8:=ξ
  (first|lia|omega)
 have d:¬(!Builtin.List.listFitsIndex k)=true:=by
  rw[fitsIndex_both h1 h2];exact Aw
 have b:¬Builtin.List.listTooLong (ad.toArray.size*k.toNat)=true:=by
  rw[L5 p];exact Aw
 have f:List.foldl (fun x1 x2=>x1++x2) #[] (Au (if ad.toArray.isEmpty=true then 0 else k.toNat) ad.toArray)=(Au k.toNat ad).flatten.toArray:=by
  have w:∀m:Nat,List.foldl (fun x1 x2=>x1++x2) #[] (Au m ad.toArray)=(Au m ad).flatten.toArray:=fun m=>by
   have:=foldl_rep ad m [];rw[List.nil_append] at this;exact this
  rw[w];cases ad with
  |nil=>simp
  |cons a r'=>rw[if_neg (by simp)]
 refine wpAny_binaryOp_repeat_ref (T:="list") (U:="int") ξ ⟨_,e,rfl⟩ (fun s'=>typeIs_int s' k t) noFill_list_mul F.fills_int_mul F.slot_int_rmul repeat_list F.slot_int_index.lookup
  (call_meets F.slot_int_rmul (typeIs_int s k t) F.entry_int_rmul (F.args_int_rmul_2 _ _) (int___rmul___int_list k t l ad.toArray n)
   ⟨e,rfl,⟨_,e,rfl⟩,call_meets F.slot_list_mul ⟨_,e,rfl⟩ F.entry_list_mul (F.args_list_mul_2 _ _) (AutoListH.list___mul___list_int_3 l ad.toArray n k t d c b) ⟨e,?_⟩⟩)
 rw[f];exact⟨.ref _,_,I.lnew (t':=s.toks) (r.rep k.toNat) (by rw[len_rep,Nat.mul_comm];exact hz),rfl,q _ I.fresh⟩
end
section
variable{prog:Program}{w:World}{A:Around}{E:Ω}{s:Shared}
set_option maxRecDepth 100000 in
end
section
variable{κ:Type}[DecidableEq κ]
def b3(kvs:List (κ×V))(k:κ):Option V:=(kvs.find? fun a=>decide (a.1=k)).map (·.2)
def putK(kvs:List (κ×V))(k:κ)(v:V):List (κ×V):=
 if(kvs.any fun a=>decide (a.1=k))=true then kvs.map (fun a=>if a.1=k then(a.1,v) else a) else kvs++[(k,v)]
def Ej{p:κ×V}{r:List (κ×V)}{k:κ}(e:p.1=k):b3 (p::r) k=some p.2:=by simp[b3,List.find?_cons,e]
def Ek{p:κ×V}{r:List (κ×V)}{k:κ}(e:¬p.1=k):b3 (p::r) k=b3 r k:=by simp[b3,List.find?_cons,e]
def Hn(k:κ):∀kvs:List (κ×V),(kvs.any fun a=>decide (a.1=k))=(b3 kvs k).isSome
 |[]=>rfl
 |p::r=>by
  rw[List.any_cons]
  by_cases e:p.1=k
  ·simp only[Ej e,decide_eq_true e,Bool.true_or,Option.isSome_some]
  ·rw[Ek e,decide_eq_false e,Bool.false_or];exact Hn k r
def Ho(kvs:List (κ×V))(k:κ)(v:V):(putK kvs k v).length<=kvs.length+1:=by
 unfold putK;split
 ·rw[Aa];(first|lia|omega)
 ·rw[AJ,AO,List.length_nil];(first|lia|omega)
def RelO.isSome_eq{o:Option V}{u:Option Value}(r:RelO o u):o.isSome=u.isSome:=by
 cases o with
 |none=>cases u with
  |none=>rfl
  |some _=>exact(show False from r).elim
 |some _=>cases u with
  |none=>exact(show False from r).elim
  |some _=>rfl
def KV.val{kvs:List (κ×V)}{vs:List (κ×Value)}(r:KV kvs vs)(k:κ):RelO (b3 kvs k) (valueAt vs k):=by
 unfold KV at r
 induction r with
 |nil=>exact True.intro
 |@cons p q ps a h t d=>
  obtain⟨h1,h2⟩:=h
  by_cases e:p.1=k
  ·have c:q.1=k:=h1.symm.trans e
   have b:valueAt (q::a) k=some q.2:=by simp[valueAt,List.find?_cons,c]
   rw[Ej e,b];exact h2
  ·have c:¬q.1=k:=fun z=>e (h1.trans z)
   have b:valueAt (q::a) k=valueAt a k:=by simp[valueAt,List.find?_cons,c]
   rw[Ek e,b];exact d
def KV.any{kvs:List (κ×V)}{vs:List (κ×Value)}(r:KV kvs vs)(k:κ):(kvs.any fun a=>decide (a.1=k))=vs.any fun a=>decide (a.1=k):=by
 unfold KV at r
 induction r with
 |nil=>rfl
 |cons h t ih=>rw[List.any_cons,List.any_cons,ih,h.1]
def KV.repl{kvs:List (κ×V)}{vs:List (κ×Value)}(r:KV kvs vs)(k:κ){y:V}{u:Value}(b:RelV y u):KV (kvs.map fun a=>if a.1=k then(a.1,y) else a) (vs.map fun a=>if a.1=k then(a.1,u) else a):=by
 unfold KV at r ⊢
 induction r with
 |nil=>exact .nil
 |@cons p q ps qs h t ih=>
  rw[A5,A5];refine .cons ?_ ih;obtain⟨h1,h2⟩:=h
  by_cases e:p.1=k
  ·rw[if_pos e,if_pos (h1.symm.trans e)];exact⟨h1,b⟩
  ·rw[if_neg e,if_neg (fun z=>e (h1.trans z))];exact⟨h1,h2⟩
def KV.put{kvs:List (κ×V)}{vs:List (κ×Value)}(r:KV kvs vs)(k:κ){y:V}{u:Value}(a:RelV y u):KV (putK kvs k y) (stored vs k u):=by
 unfold putK stored;rw[r.any k]
 by_cases e:(vs.any fun b=>decide (b.1=k))=true
 ·rw[if_pos e,if_pos e];exact r.repl k a
 ·rw[if_neg e,if_neg e];exact Paired.snoc r ⟨rfl,a⟩
def KV.length{kvs:List (κ×V)}{vs:List (κ×Value)}(r:KV kvs vs):kvs.length=vs.length:=Paired.length r
end
def yP{P:Program}{w:World}{k:Key}{u:Value}(r:RelV (kV k) u):(zV P w).is k u=true:=by
 cases k with
 |inl i=>obtain⟨t,e⟩:=(show ∃t,u=Value.int i t from r);subst e;exact Lg P w i t
 |inr x=>obtain⟨t,e⟩:=(show ∃t,u=Value.str x t from r);subst e;exact Lh P w x t
def Hq{P:Program}{w:World}:∀{ks:List Key}{us:List Value},Vals (ks.map kV) us->ItemsAre (zV P w) ks us
 |[],_,r=>by rw[List.map_nil] at r;cases r;exact .nil
 |k::ks,_,r=>by
  rw[A5] at r;cases r with
  |cons h t=>exact .cons (yP h) (Hq t)
abbrev KT(H:Hp):List (List Key×V)->List (List Key×Addr×Value)->Prop:=Paired fun p q=>p.1=q.1/\H q.2.1=some (.tup (p.1.map kV))/\RelV p.2 q.2.2
def KT.val{H:Hp}{kvs:List (List Key×V)}{xs:List (List Key×Addr×Value)}(r:KT H kvs xs)(k:List Key):RelO (b3 kvs k) ((atKey xs k).map (·.2)):=by
 induction r with
 |nil=>exact True.intro
 |@cons p q ps a h t d=>
  obtain⟨h1,_,h2⟩:=h
  by_cases e:p.1=k
  ·have c:q.1=k:=h1.symm.trans e
   have b:atKey (q::a) k=some q.2:=by simp[atKey,List.find?_cons,c]
   rw[Ej e,b];exact h2
  ·have c:¬q.1=k:=fun z=>e (h1.trans z)
   have b:atKey (q::a) k=atKey a k:=by simp[atKey,List.find?_cons,c]
   rw[Ek e,b];exact d
def KT.repl{H:Hp}{kvs:List (List Key×V)}{xs:List (List Key×Addr×Value)}(r:KT H kvs xs)(k:List Key){y:V}{u:Value}(c:RelV y u):KT H (kvs.map fun a=>if a.1=k then(a.1,y) else a) (xs.map (putAt k u)):=by
 induction r with
 |nil=>exact .nil
 |@cons p q ps qs h t ih=>
  rw[A5,A5];refine .cons ?_ ih;obtain⟨h1,h2,b⟩:=h;unfold putAt
  by_cases e:p.1=k
  ·rw[if_pos e,if_pos (h1.symm.trans e)];exact⟨h1,h2,c⟩
  ·rw[if_neg e,if_neg (fun z=>e (h1.trans z))];exact⟨h1,h2,b⟩
def KT.put{H:Hp}{kvs:List (List Key×V)}{xs:List (List Key×Addr×Value)}(r:KT H kvs xs)(k:List Key){b:Addr}{y:V}{u:Value}(hb:H b=some (.tup (k.map kV)))(a:RelV y u):KT H (putK kvs k y) (storedH xs k b u):=by
 have e:(kvs.any fun c=>decide (c.1=k))=(atKey xs k).isSome:=by
  rw[Hn,(r.val k).isSome_eq,Option.isSome_map]
 unfold putK storedH;rw[e]
 by_cases q:(atKey xs k).isSome=true
 ·rw[if_pos q,if_pos q];exact r.repl k a
 ·rw[if_neg q,if_neg q];exact Paired.snoc r ⟨rfl,hb,a⟩
def KT.keeps{H H':Hp}{kvs:List (List Key×V)}{xs:List (List Key×Addr×Value)}(r:KT H kvs xs)(a:∀b ys,H b=some (.tup ys)->H' b=some (.tup ys)):KT H' kvs xs:=
 Paired.mapP r fun _ _ z=>⟨z.1,a _ _ z.2.1,z.2.2⟩
section
variable{P:Program}{w:World}{H:Hp}{h:Heap}{a:Addr}
def Hr{u:HO}(ok:HOk P w H h)(e:Rd H a u):zW P w H h a u:=e.ok ok
def yT{kvs:List (Key×V)}(ok:HOk P w H h)(e:Rd H a (.dK kvs)):kvs.length<=sizeLine/\(a==sysModules)=false/\∃vs,KV kvs vs/\h.DictOf (zV P w) a vs:=
 show zW P w H h a (.dK kvs) from Hr ok e
def Hs{kvs:List (Key×V)}(ok:HOk P w H h)(e:H a=some (.dK kvs)):kvs.length<=sizeLine/\(a==sysModules)=false/\∃vs,KV kvs vs/\h.DictOf (zV P w) a vs:=yT ok (.inl e)
def yW{ks:List Key}(ok:HOk P w H h)(e:H a=some (.tup (ks.map kV))):(tupleKind (zV P w)).is h ks a:=by
 obtain⟨_,ad,r,o,h1,h2,n,b⟩:=(show zW P w H h a (.tup (ks.map kV)) from ok a _ e);exact⟨o,ad.toArray,n,h1,h2,b,by simpa using Hq r⟩
def y6{kvs:List (List Key×V)}(ok:HOk P w H h)(e:Rd H a (.dT kvs)):kvs.length<=sizeLine/\(a==sysModules)=false/\
  ∃xs,KT H kvs xs/\h.DictOfH (tupleKind (zV P w)) a xs:=by
 obtain⟨z,y,xs,r,o,es,ep,h1,h2,b,c,d⟩:=(show zW P w H h a (.dT kvs) from Hr ok e);refine⟨z,y,xs,r,o,es,ep,h1,h2,b,c,fun x hx=>?_,d⟩;have all:∀{l:List (List Key×V)}{m:List (List Key×Addr×Value)},KT H l m->∀x∈m,(tupleKind (zV P w)).is h x.1 x.2.1:=by
  intro l m q
  induction q with
  |nil=>intro x hx;exact nomatch hx
  |@cons p q ps qs hq t ih=>
   intro x hx;rcases List.mem_cons.mp hx with e|hx
   ·subst e
    exact yW ok (by rw[<-hq.1];exact hq.2.1)
   ·exact ih x hx
 exact all r x hx
def L6{kvs:List (List Key×V)}(ok:HOk P w H h)(e:H a=some (.dT kvs)):kvs.length<=sizeLine/\(a==sysModules)=false/\
  ∃xs,KT H kvs xs/\h.DictOfH (tupleKind (zV P w)) a xs:=y6 ok (.inl e)
end
def DGet(H:Hp)(a:Addr)(y:V)(r:Option V):Prop:=
 (∃kvs k,Rd H a (.dK kvs)/\y=kV k/\r=b3 kvs k)\/∃kvs k b,Rd H a (.dT kvs)/\y=.ref b/\H b=some (.tup (k.map kV))/\r=b3 kvs k
def DPut(H:Hp)(a:Addr)(y v:V)(H':Hp):Prop:=
 (∃kvs k,H a=some (.dK kvs)/\y=kV k/\kvs.length<sizeLine/\H'=upd H a (.dK (putK kvs k v))) \/
 ∃kvs k b,H a=some (.dT kvs)/\y=.ref b/\H b=some (.tup (k.map kV))/\kvs.length<sizeLine/\H'=upd H a (.dT (putK kvs k v))
def DGet.k{H:Hp}{a:Addr}{kvs:List (Key×V)}{k:Key}(e:H a=some (.dK kvs)):DGet H a (kV k) (b3 kvs k):=.inl ⟨kvs,k,.inl e,rfl,rfl⟩
def DGet.t{H:Hp}{a b:Addr}{kvs:List (List Key×V)}{k:List Key}(e:H a=some (.dT kvs))(c:H b=some (.tup (k.map kV))):DGet H a (.ref b) (b3 kvs k):=.inr ⟨kvs,k,b,.inl e,rfl,c,rfl⟩
def DPut.k{H:Hp}{a:Addr}{kvs:List (Key×V)}{k:Key}{v:V}(e:H a=some (.dK kvs))(b:kvs.length<sizeLine):DPut H a (kV k) v (upd H a (.dK (putK kvs k v))):=.inl ⟨kvs,k,e,rfl,b,rfl⟩
def DPut.t{H:Hp}{a b:Addr}{kvs:List (List Key×V)}{k:List Key}{v:V}(e:H a=some (.dT kvs))(c:H b=some (.tup (k.map kV)))(d:kvs.length<sizeLine):DPut H a (.ref b) v (upd H a (.dT (putK kvs k v))):=.inr ⟨kvs,k,b,e,rfl,c,d,rfl⟩
section
variable{X:Cx}{aa:Ψ}{σ:St}{H:Hp}{s:Shared}{a:Addr}{y v:V}{u r:Value}{o:Option V}{A:Around}{E:Ω}
def Inv.big(I:Inv X aa σ H s):sysModules<s⁻¹:=by
 have h:mainGlobals<s⁻¹:=(I.mod.glob.keeps I.bk).lt;exact Nat.lt_trans ξ h
def L7{Q:Ω}(hu:A.units+1<cLine)(I:Inv X aa σ H s)(g:DGet H a y (some v))(j:RelV y u)(h:∀c s',Inv X aa σ H s'->RelV v c->Q c s'):wpAny (model X.prog X.w) A (getItem (.ref a) u) Q E s:=by
 rcases g with ⟨kvs,k,e,d,l⟩|⟨kvs,k,b,e,d,q,l⟩
 ·subst d
  obtain⟨z,hd,vs,f,dd⟩:=yT I.hok e;obtain⟨c,hw,i⟩:=RelO.some_of (v:=v) (o:=valueAt vs k) (by rw[l];exact f.val k);exact wpAny_getItem_of (yP j) dd.mapOf hw (h c _ (I.tok _) i)
 ·subst d
  cases(show u=Value.ref b from j);obtain⟨z,hd,xs,f,dd⟩:=y6 I.hok e;obtain⟨c,hw,i⟩:=RelO.some_of (v:=v) (o:=(atKey xs k).map (·.2)) (by rw[l];exact f.val k);obtain⟨p,hp,r⟩:=Option.map_eq_some_iff.mp hw;refine wpAny_getItem_heap (tupleKind_room_in1 hu) (yW I.hok q) dd hp ?_;rw[r];exact h c _ (I.tok _) i
def El{Q:Ω}(hu:A.units+1<cLine)(I:Inv X aa σ H s)(g:DGet H a y o)(f:RelV y u)(h:∀s',Inv X aa σ H s'->Q (.bool o.isSome) s'):wpAny (model X.prog X.w) A (compareOp .In u (.ref a)) Q E s:=by
 rcases g with ⟨kvs,k,e,c,l⟩|⟨kvs,k,b,e,c,i,l⟩
 ·subst c
  obtain⟨z,hd,vs,d,dd⟩:=yT I.hok e;refine wpAny_in_of (yP f) hd dd.mapOf ?_;rw[<-(d.val k).isSome_eq,<-l];exact h _ (I.tok _)
 ·subst c
  cases(show u=Value.ref b from f);obtain⟨z,hd,xs,d,dd⟩:=y6 I.hok e;refine wpAny_in_heap (tupleKind_room_in1 hu) (yW I.hok i) hd dd ?_;have q:=(d.val k).isSome_eq;rw[Option.isSome_map] at q;rw[<-q,<-l];exact h _ (I.tok _)
def Ht{h':Heap}{t':Nat}{c:HO}(I:Inv X aa σ H s)(mu:pi (H a))(d:Heap.SameBut a s.heap h')(f:∃q,h'.get? a=some q)(new:zW X.prog X.w (upd H a c) h' a c):Inv X aa σ (upd H a c) {s with heap:=h',toks:=t'}:=
 I.write (x:=a) (e:=a) mu (.inl rfl) (fun b q hb z=>(d.2 b hb).trans z) f new
def dk_new{P:Program}{w:World}{H':Hp}{h':Heap}{kvs:List (Key×V)}{vs:List (Key×Value)}(z:kvs.length<=sizeLine)(hd:(a==sysModules)=false)(b:KV kvs vs)(dd:h'.DictOf (zV P w) a vs):zW P w H' h' a (.dK kvs):=⟨z,hd,vs,b,dd⟩
def L8{H':Hp}{Q:Unit->Shared->Prop}(hu:A.units+1<cLine)(I:Inv X aa σ H s)(g:DPut H a y v H')(F:RelV y u)(x:RelV v r)(h:∀s',Inv X aa σ H' s'->Q () s'):wpAny (model X.prog X.w) A (setItem (.ref a) u r) Q E s:=by
 rcases g with ⟨kvs,k,e,o,l,p⟩|⟨kvs,k,b,e,o,C,l,p⟩
 ·subst o p
  obtain⟨z,hd,vs,d,dd⟩:=Hs I.hok e;have hz:vs.length<=sizeLine:=by rw[<-d.length];exact z
  have j:(putK kvs k v).length<=sizeLine:=by have:=Ho kvs k v;(first|lia|omega)
  refine wpAny_setItem_pairs (hsz:=hz) (yP F) dd fun h' f i=>h _ ?_;have G:∃q,h'.get? a=some q:=let ⟨q,_,_,hq,_⟩:=f;⟨q,hq⟩;exact Ht I (by rw[e];exact True.intro) i G (dk_new j hd (d.put k x) f)
 ·subst o p
  cases(show u=Value.ref b from F);obtain⟨z,hd,xs,d,dd⟩:=L6 I.hok e;have hz:xs.length<=sizeLine:=by rw[<-Paired.length d];exact z
  have j:(putK kvs k v).length<=sizeLine:=by have:=Ho kvs k v;(first|lia|omega)
  refine wpAny_setItem_heap (hsz:=hz) (tupleKind_room_in1 hu) (yW I.hok C) dd fun h' f i=>h _ ?_;obtain⟨q,es,ep,hq,h2,J,L,_,M⟩:=f;refine Ht I (by rw[e];exact True.intro) i ⟨q,hq⟩ ⟨j,hd,_,(d.put k C x).keeps fun c ys D=>?_,q,es,ep,hq,h2,J,L,M⟩;rw[ao (DQ D e (fun z=>nomatch z))];exact D
end
def qF(i:Expr):Prop:=∀a b,subscripted i false a b=operate [a,b] (getItem a b)
def L9{prog:Program}{w:World}{A:Around}{E:Ω}{s:Shared}{env:Env}{aE slice:Expr}{pos:Pos}{T id:String}{Q:Ω}(j:typeLookup (.type T) "__getitem__"=pure (some (.builtin id)))(l:qF slice)(h:wpAny (model prog w) A (eval aE env) (fun o c=>wpAny (model prog w) A (eval slice env) (fun i a=>a.TypeIs o T/\wpAny (model prog w) A (getItem o i) Q E a) E c) E s):wpAny (model prog w) A (eval (.Subscript aE slice pos) env) Q E s:=by
 refine Subscript_ (wpAny_mono h (fun o c f=>wpAny_mono f (fun i a b=>?_) fun _ _ x=>x) fun _ _ x=>x);obtain⟨e,b⟩:=b;unfold subscriptTail;refine Ad ?_;rw[getitemInPython_of_ne e.not_modules];refine Ad (wpAny_specialOf e j ?_);have fin:wpAny (model prog w) A (subscripted slice false o i) (fun r d=>wpAny (model prog w) A (letTemporaryGo aE o r >>= fun _=>pure r) Q E d) E a:=by
  rw[l o i];exact wpAny_operating (wpAny_mono b (fun r d g=>Ad (wpAny_letTemporaryGo (Ao g))) fun _ _ x=>x)
 first
  |exact Ao (Ad fin)
  |exact Ad (Ao (Ad fin))
  |exact Ad fin
def L_{X:Cx}{aa:Ψ}{σ:St}{H:Hp}{s:Shared}{a:Addr}{y:V}{o:Option V}(I:Inv X aa σ H s)(g:DGet H a y o):s.TypeIs (.ref a) "dict":=by
 rcases g with ⟨kvs,k,e,_,_⟩|⟨kvs,k,b,e,_,_,_⟩
 ·obtain⟨_,_,vs,_,dd⟩:=yT I.hok e
  exact dd.typeIs
 ·obtain⟨_,_,xs,_,dd⟩:=y6 I.hok e
  exact dd.typeIs
def L'(td ty:TE):TE:=fun σ H Q=>td σ H fun x H1=>ty σ H1 fun y H2=>∃a v,x=.ref a/\DGet H2 a y (some v)/\Q v H2
def Em(ty td:TE):TE:=fun σ H Q=>ty σ H fun y H1=>td σ H1 fun x H2=>∃a o,x=.ref a/\DGet H2 a y o/\Q (.bl o.isSome) H2
def Ma(td ty tv:TE):TS:=fun D σ H=>tv σ H fun v H1=>td σ H1 fun x H2=>ty σ H2 fun y c=>∃a b,x=.ref a/\DPut c a y v b/\D.nx σ b
section
variable{X:Cx}{o i e aE:Expr}{pos aC cN:Pos}{td ty tv:TE}
def kI(hu:X.A.units+1<cLine)(p:PE X o td)(hi:PE X i ty)(q:qF i):PE X (.Subscript o i pos) (L' td ty):=by
 intro aa s σ H Q I h;refine L9 PySem.F.slot_dict_getitem.lookup q (aT (p aa s σ H _ I h) fun u c ⟨x,H1,r,d,e⟩=>aT (hi aa c σ H1 _ r e) fun z C ⟨y,H2,b,f,a,v,ex,g,j⟩=>?_);subst ex;obtain rfl:u=Value.ref a:=d;exact⟨L_ b g,L7 hu b g f fun D E w l=>⟨v,H2,w,l,j⟩⟩
def Mb(hu:X.A.units+1<cLine)(hi:PE X i ty)(l:PE X o td):PC X .In i o (Em ty td):=by
 intro aa s σ H Q I h;refine aT (hi aa s σ H _ I h) fun v b ⟨y,H1,p,c,d⟩=>aT (l aa b σ H1 _ p d) fun u w ⟨x,H2,q,e,a,f,ex,g,j⟩=>?_;subst ex;obtain rfl:u=Value.ref a:=e;exact El hu q g c fun z r=>⟨.bl f.isSome,H2,r,rfl,j⟩
def En(hu:X.A.units+1<cLine)(q:PE X o td)(hi:PE X i ty)(w:PE X aE tv)(z:swapsWith aE (some (.Subscript o i aC)) pos.line X.env=pure false):PS X (.Assign [.Subscript o i aC] aE pos) (Ma td ty tv):=by
 intro aa s σ H D I h;refine wpAny_Assign_Subscript (aT (w aa s σ H _ I h) fun r b ⟨v,H1,C,c,d⟩=>aT (q aa b σ H1 _ C d) fun u e ⟨x,H2,E,f,j⟩=>aT (hi aa e σ H2 _ E j) fun L M ⟨y,O,F,l,a,G,ex,g,p⟩=>?_) z;subst ex;obtain rfl:u=Value.ref a:=f;exact L8 hu F g l c fun N J=>⟨σ,G,J,p⟩
end
def Mc{P:Program}{w:World}{H:Hp}(h:Heap)(hb:sysModules<h.objs.size):zW P w H (h.push {cls:=.type "dict",data:=.dict #[]}) h.objs.size (.dK []):=
 ⟨AB _,beq_eq_false_iff_ne.mpr (Ne.symm (Az hb)),[],.nil,Heap.DictOf.new h⟩
def Md:TE:=fun _ H Q=>∀p,H p=none->Q (.ref p) (upd H p (.dK []))
section
variable{X:Cx}{pos:Pos}
def Me:PE X (.Dict [] [] pos) Md:=fun aa s σ H Q I h=>
 wpAny_Dict_empty ⟨.ref s⁻¹,_,I.laid (a:=s⁻¹) (o:=.dK []) (t':=s.toks) (fun _ _ q=>Ai _ q) (Ae _) (Mc s.heap I.big),rfl,h _ (I.hok.fresh (Ae _))⟩
end
structure M1(X:Cx)(o:Expr)(m:Str)(bW:Pos)(e:Expr)(aA:Pos):Prop where
 base:attributeBase o m X.env (eval o X.env)=eval o X.env
 few:((backTo aA (starEach [e] X.env)).all (fun x=>!x.1)&&(backToKw aA (keywordEach [] X.env)).all (fun x=>x.1.isSome)
  && decide (([e]:List Expr).length+([]:List Keyword).length+(if([]:List Keyword).isEmpty then 0 else 1)<30))=true
 line:(bW.endLine==aA.line)=true
 trees:backTo aA (starEach [e] X.env)=[(false,eval e X.env)]
structure M2(X:Cx)(o:Expr)(m:Str)(bW:Pos)(e f:Expr)(aA:Pos):Prop where
 base:attributeBase o m X.env (eval o X.env)=eval o X.env
 few:((backTo aA (starEach [e,f] X.env)).all (fun x=>!x.1)&&(backToKw aA (keywordEach [] X.env)).all (fun x=>x.1.isSome)
  && decide (([e,f]:List Expr).length+([]:List Keyword).length+(if([]:List Keyword).isEmpty then 0 else 1)<30))=true
 line:(bW.endLine==aA.line)=true
 trees:backTo aA (starEach [e,f] X.env)=[(false,eval e X.env),(false,eval f X.env)]
def IsD(H:Hp)(a:Addr):Prop:=(∃kvs,Rd H a (.dK kvs))\/∃kvs,Rd H a (.dT kvs)
end L2
namespace Att
open PySem PySem.W PySem.Calls PyProof.Rows
def Mf{P:Params}{h:Heap}:∀(ns:List Int)(vs:List Value),WellAll P h vs (ns.map WData.int)->IntsAre vs ns:=by
 intro ns
 induction ns with
 |nil=>
  intro vs w;rw[List.map_nil] at w;cases w;exact .nil
 |cons n ns ih=>
  intro vs w;rw[A5] at w;cases w with
  |cons a b=>
   cases a;exact .cons _ _ (ih _ b)
def Mg{l:OpenLaw}{n:Nat}(hn:l.most=some n){P:Params}{h:Heap}{args:List WData}{f:List Value}(g:l.row.toRowW.claim.pre args=true)(p:WellAll P h f args):∃a vs ns,f=[Value.ref a]/\args=[WData.list (ns.map WData.int)]/\h.get? a=some {cls:=.type "list",data:=.seq vs.toArray}/\IntsAre vs ns/\ns.length<=n:=by
 have e:WShape.hasAll [] args [.list .int]=true:=(pre_splitW g).1;have hc:l.pre.holds [] {args:=args}=true:=(pre_splitW g).2;obtain⟨d,r,rfl,h1,h2⟩:=hasAllW_cons e;obtain rfl:=hasAllW_nil h2;obtain⟨xs,rfl,i⟩:=hasW_list h1;obtain⟨ns,rfl⟩:=items_int i;have j:ns.length<=n:=by
  unfold OpenLaw.pre at hc;have b:(WTm.not (.lt (.lit (.int (n:Int))) (.len (.arg 0)))).holds [] {args:=[.list (ns.map .int)]}=true:=by
   have b:=(holds_andW hc).1;rw[hn] at b;exact b
  have c:=condW_of b (w_not (w_lt w_lit (w_len_list (w_arg rfl))));rw[Aa] at c;refine Nat.le_of_not_lt fun q=>?_;have o:(n:Int)<((ns.length:Nat):Int):=ω
  first
   |(rw[decide_eq_true o] at c;exact absurd c ξ)
   |(simp at c;(first|lia|omega))
 cases p with
 |cons w1 w2=>
  cases w2;cases w1 with
  |list ho hall=>exact⟨_,_,ns,rfl,rfl,ho,Mf ns _ hall,j⟩
def Mh(l:OpenLaw)(args:List WData):l.row.toRowW.claim.post args (.bool true) args=true:=
 postW_of (r:=l.row.toRowW) (X:=(true==true))
  (show WShape.has [] (.bool true) .bool=true by first|rfl|decide|simp[WShape.has,WShape.arms,WShape.armsAll])
  (show(WTm.eq .res (.lit (.bool true))).value [] {args:=args,res:=some (.bool true),after:=args}=some (.bool (true==true)) from w_eq_bool (w_res rfl) w_lit) rfl
def Mj{l:OpenLaw}{n:Nat}{q:Program}{j:List Str}{p:(Str->Option Value)->Heap->Prop}{s:World->Heap->Prop}{d:DefRec}(hn:l.most=some n)(J:d.params.defaults=[])(call:∀(w:World)(s₀ b:Shared)(mg e:Str->Option Value)(fa:Addr)(o:Obj)(g c h:Value)(a:Addr)(vs:List Value)(ns:List Int),
   Ground q j [] p w s₀ mg e b.heap->s w b.heap->
   b.heap.get? fa=some o->o.data=.func (docDef d.name d.params d.body d.scope g c h)->b.heap.CodeRec c d.name->mg d.name=some (.ref fa)->
   b.heap.get? a=some {cls:=.type "list",data:=.seq vs.toArray}->IntsAre vs ns->ns.length<=n->b.gens=#[]->
   codeAny (model l.prog w) callerA (.call (.ref fa) ⟨[.ref a],[]⟩) (fun r s'=>r=.ok (.ret (.bool true))/\OldK b.heap s'.heap/\s'.os=b.os/\AllBare s'.gens) b):
  WalkO q j p s l.row.toRowW d [] (fun f vs=>PySem.call f vs):=by
 intro w s₀ b mg e G Y fa o g c h u kV v hd x i y hg args L M z N O A P;obtain rfl:u=.none:=Dflts.none i J;obtain rfl:kV=.none:=Dflts.noKw i;obtain⟨a,vs,ns,rfl,rfl,D,E,F⟩:=Mg hn z A;refine enter_call (codeAny_mono (call w s₀ b mg e fa o g c h a vs ns G Y v (fd_plain hd) x y D E F hg) fun r s' hq=>?_);obtain⟨rfl,h2,H,I⟩:=hq;exact⟨.inl ⟨.bool true,.bool true,[],rfl,fun _=>rfl,.bool true,Mh l _,fun _=>⟨List.Pairwise.nil,fun _ C=>(nomatch C)⟩⟩,h2,H,I⟩
end Att
namespace L2
open PySem PySem.Spec PyProof.Rows
def Hu:∀{vs:List Value}{ns:List Int},IntsAre vs ns->Vals (ns.map V.int) vs
 |_,_,.nil=>.nil
 |_,_,.cons n t h=>.cons ⟨t,rfl⟩ (Hu h)
def kJ(H:Hp):Prop:=∀b,H b=none\/∃o xs,H b=some (.frz o (.lst xs))
def Ml{P:Program}{w:World}{K:Af}{mg y:Str->Option Value}{CX:eP}{k:Nat}{fa a:Addr}{fd:FuncData}{x:Str}{sp:Sp}{c:Shared}{vs:List Value}{ns:List Int}(M:K.In c.heap)(J:c.heap.Ns mainGlobals mg)(hb:c.heap.Ns builtinsNs y)(eW:∀x:Str,x≠"__name__"->y x=A4 x)(ni:c.heap.NoLimit)(hg:c.gens=#[])(l:c.heap.get? a=some {cls:=.type "list",data:=.seq vs.toArray})(hi:IntsAre vs ns)(L:ns.length<=sizeLine)(hr:Room k callerA)(F:∀base:Heap,K.In base->base.Ns mainGlobals mg->ar P w K mg base CX k fa fd [x] sp)(jg:∀(s:Shared)(u:Value),BindsTo s fd ⟨[u],[]⟩ [(x,u)])(cO:∀H:Hp,kJ H->SqL K H a (ns.map V.int)->sp [.ref a] H (fun v _=>v=.bl true) fun _ _ _=>False)(kD:∀H e s',CX [] H c (fun _ _ _=>False) e s'->False):codeAny (model P w) callerA (.call (.ref fa) ⟨[.ref a],[]⟩) (fun r s'=>r=.ok (.ret (.bool true))/\OldK c.heap s'.heap/\s'.os=c.os/\AllBare s'.gens) c:=by
 have D:=Hu hi;have U:=hi.length;have E:∀H:Hp,kJ H->SqL K H a (ns.map V.int)->HOk P w H c.heap->(∀b,H b≠none->b=a)->(H a≠none->K.lookup a=none)->
   codeAny (model P w) callerA (.call (.ref fa) ⟨[.ref a],[]⟩) (fun r s'=>r=.ok (.ret (.bool true))/\OldK c.heap s'.heap/\s'.os=c.os/\AllBare s'.gens) c:=by
  intro H A N g C O;have G:∀{b:Addr}{o:Obj},c.heap.get? b=some o->H b=none->(dm c.heap H).get? b=some o:=fun e n=>Lj e n;have W:∀{b:Addr}{o:Obj}{es:Array DictEntry}{ep:Nat},c.heap.get? b=some o->o.data=.dict es ep->H b=none:=fun{b o es ep} e d=>by
   cases q:H b with
   |none=>rfl
   |some u=>
    have p:b=a:=C b (by rw[q];simp);subst p;rw[l] at e;cases e;have d':Data.seq vs.toArray _=Data.dict es ep:=d;cases d'
  have f:∀{b:Addr}{m:Str->Option Value},c.heap.Ns b m->(dm c.heap H).Ns b m:=fun{b m} ⟨o,es,ep,e,d,r⟩=>⟨o,es,ep,G e (W e d),d,r⟩;have I:K.In (dm c.heap H):=fun b o e=>G (M b o e) (by
   cases q:H b with
   |none=>rfl
   |some u=>
    have p:b=a:=C b (by rw[q];simp);subst p;rw[O (by rw[q];simp)] at e;cases e)
  have X:Mod K mg (dm c.heap H):=⟨I,f J,⟨y,f hb,eW⟩,let ⟨mc,h1,h2⟩:=ni;⟨mc,f h1,h2⟩⟩;have Y:Env0 P w K mg (dm c.heap H) callerA [] c H:=⟨rfl,X,fun b o e=>Lk e,Nat.le_of_eq (Li _ _),trivial,fun b hb=>absurd (show b∈([]:List Addr) from hb) (by simp),g,.of_eq hg⟩;refine codeAny_mono ((F _ I (f J)).run callerA [] c H ⟨[.ref a],[]⟩ [.ref a] [.ref a] _ _ hr Y (jg c (.ref a)) (.cons rfl .nil) (cO H A N)) fun r s' h=>?_;cases r with
  |error e=>exact(kD H e s' h).elim
  |ok fl=>
   cases fl with
   |next=>exact False.elim h
   |brk=>exact False.elim h
   |cont=>exact False.elim h
   |ret u=>
    obtain⟨v,H',os,i,un,Q,S,q⟩:=h;have Z:v=.bl true:=q;subst Z;obtain rfl:u=Value.bool true:=S;refine⟨rfl,OldK.of_keep fun b o e=>?_,os,i⟩;cases q:H b with
    |none=>exact un.keep b o e q (by intro z;exact absurd (show b∈([]:List Addr) from z) (by simp)) (by simp)
    |some u=>
     rcases A b with z|⟨T,xs,z⟩
     ·rw[q] at z;cases z
     ·have z2:=un.frzs b T _ z
      obtain⟨e1,_⟩:=g b _ z;obtain⟨e2,_⟩:=Q b _ z2;rw[e] at e1;cases e1;exact e2
 cases hk:K.lookup a with
 |some o=>
  have e:=M a o hk;rw[l] at e;cases e;refine E (fun _=>none) (fun _=>.inl rfl) (.inr ⟨_,vs.toArray,_,hk,rfl,rfl,rfl,by rw[AC,U];exact L,by simpa using D⟩) (fun b u z=>by have j:(none:Option HO)=some u:=z;cases j) (fun b z=>absurd rfl z) fun z=>absurd rfl z
 |none=>
  refine E (fun b=>if b=a then some (.frz {cls:=.type "list",data:=.seq vs.toArray} (.lst (ns.map V.int))) else none) (fun b=>?_) (.inl (.inr ⟨{cls:=.type "list",data:=.seq vs.toArray},if_pos rfl⟩)) (fun b u z=>?_) (fun b z=>?_) fun _=>hk
  ·by_cases hb:b=a
   ·exact .inr ⟨_,_,if_pos hb⟩
   ·exact .inl (if_neg hb)
  ·by_cases hb:b=a
   ·have j:=(if_pos hb).symm.trans z
    cases j;subst hb;exact⟨l,by rw[Aa];exact L,vs,_,D,l⟩
   ·have j:=(if_neg hb).symm.trans z
    cases j
  ·by_cases hb:b=a
   ·exact hb
   ·exact absurd (if_neg hb) z
def Hv{l:PySem.W.OpenLaw}{n k:Nat}{q:Program}{E:List Str}{O:(Str->Option Value)->Heap->Prop}{j:World->Heap->Prop}{d:DefRec}{K:Params->Af}{CX:World->eP}{sp:World->Sp}{x:Str}(hn:l.most=some n)(I:n<=sizeLine)(J:d.params.defaults=[])(hr:Room k callerA)(L:∀(w:World)(h:Heap),j w h->(K w.params).In h)(F:∀(w:World)(mg:Str->Option Value)(fa:Addr)(h:Heap),(K w.params).In h->h.Ns mainGlobals mg->mg d.name=some (.ref fa)->
   ∃fd:FuncData,(∀(s:Shared)(u:Value),BindsTo s fd ⟨[u],[]⟩ [(x,u)])/\
    ∀base:Heap,(K w.params).In base->base.Ns mainGlobals mg->ar l.prog w (K w.params) mg base (CX w) k fa fd [x] (sp w))
  (M:∀(w:World)(H:Hp)(a:Addr)(ns:List Int),ns.length<=n->kJ H->SqL (K w.params) H a (ns.map V.int)->sp w [.ref a] H (fun v _=>v=.bl true) fun _ _ _=>False)
  (N:∀(w:World)(H:Hp)(s:Shared)(e:Value)(s':Shared),CX w [] H s (fun _ _ _=>False) e s'->False) :
  PySem.W.WalkO q E O j l.row.toRowW d [] (fun f vs=>PySem.call f vs):=by
 refine Att.Mj hn J fun w s₀ p mg P fa o Q S U a vs ns G Y X hd Z r y z c hg=>?_;have i:=L w _ Y;obtain⟨fd,hb,D⟩:=F w mg fa _ i G.T.g r;exact Ml i G.T.g G.T.b G.T.builtins G.T.nolimit hg y z (Ag c I) hr D hb (fun H A C=>M w H a ns c A C) fun H e s'=>N w H p e s'
end L2
/- THE LAST THEOREM (shape;LID,My.* are yours):
  My.Adr: a structure of eI addresses that your layer names (classes,functions);My.Txt K t: a structure (Prop) of eI equations over K;
  My.txt_mk:{K} {implicit addresses ..} (e1:nsIn K mainGlobals "law"=some (some (.ref f))) (e2:K.lookup f=some ⟨oc,od,.func (fnOf "law" "law" aX aI scope dV kV aV pm an ai ct),sl⟩) (e3:codeIn K ai "law"=true) ..:∃t,My.Txt K t
set_option maxRecDepth 100000 in
set_option maxHeartbeats 0 in
theorem PySem.Challenge.cw_LID_holds:PySem.Challenge.rw_LID.Holds := by
 w_on;o_law;k_head;(case hw=>w_witness2)
 k_fill
 refine L2.Hv (l:=PySem.Challenge.rw_LID) (n:=63) (k:=40) (x:="script") (CX:=fun w=>..) (sp:=fun _=>My.sp_law) rfl ξ rfl ⟨rfl,ξ,ξ⟩ (fun w h Y=>PySem.W.kIn_of Y) ?F ?S ?C
 case F=>
  intro w mg fa h f G g;have T:∃t,My.Txt (L2.KOf f) t:=by
   dsimp only[L2.KOf]                          -- K must stand as «<heap const> w.params» for k_is
   refine' My.txt_mk ?e1 ?e2 ?e3 ..
   (case e1 => PySem.W.k_is)                    -- in e order: a name -> ad address -> ad object -> ad parts
   (case e2=>PySem.W.k_is)
   ..
  obtain⟨t,T⟩:=T;have i:=g.symm.trans (PySem.W.mg_of f G T.law);cases i                                       -- fa is e law's own address
  exact⟨_,fun s u => .of_eq rfl,fun base c d => My.law_fn T c d⟩     -- if «.of_eq rfl» comes too early: refine' ⟨_,?b,fun base c d => My.law_fn T c d⟩;exact fun s u => .of_eq rfl
 case S=>exact fun w H a ns j o p=>..
 case C=>exact ..
(e tactic k_is has no namespace: write k_is) -/
namespace L2
open PySem PySem.Spec PyProof.Rows
def zb1(s:Stmt):Arguments:=match s with
 |.FunctionDef _ a _ _ _ _ _ _ _ _=>a
 |_=>{posonlyargs:=[],args:=[],vararg:=none,kwonlyargs:=[],kw_defaults:=[],kwarg:=none,defaults:=[]}
def zal(s:Stmt):List Stmt:=match s with
 |.FunctionDef _ _ b _ _ _ _ _ _ _=>b
 |_=>[]
def ze(s:Stmt):Scope:=match s with
 |.FunctionDef _ _ _ _ _ _ sc _ _ _=>sc
 |_=>{kind:=.function,names:=[],isGenerator:=false,isCoroutine:=false}
abbrev aK:eP:=fun _ _ _ _ _ _=>False
abbrev E0:XK:=fun _ _ _=>False
def ak{X:Cx}:dt aK X E0:=fun _ _ _ _ _ _ _ h=>h.elim
structure Fun(K:Af)(x ae:Str)(st:Stmt)(f:Addr)(fd:FuncData):Prop where
 ex:∃(oc:Value)(od:Option Addr)(kV aV pm:Value)(an:Option Addr)(ai ct:Value)(cZ:Array (Option Value)),
  fd=PySem.W.fnOf x ae (zb1 st) (zal st) (ze st) .none kV aV pm an ai ct/\K.lookup f=some ⟨oc,od,.func fd,cZ⟩/\PySem.W.codeIn K ai ae=true
 kp:PySem.W.keepIn K (.ref f)=true
section
variable{P:Program}{w:World}{K:Af}{mg:Str->Option Value}{base:Heap}
def Fun.ok{x b:Str}{st:Stmt}{f:Addr}{fd:FuncData}{N ps:List Str}{k:Nat}{sp:Sp}(F:Fun K x b st f fd)(S:zm N ps (ze st))(len:∀vs H Q E,sp vs H Q E->vs.length=ps.length)(e:∀(a:Value)(A:Around)(outer:List Env)(s:Shared)(H:Hp)(vs:List V)(Q:VK)(E:XK),Room k (A.deeper (envOfC b (ze st) s⁻¹ f a))->sp vs H Q E->
   ∃t,PSs (bG aK P w K mg base N b (ze st) f a A outer s H E).nox (zal st) t/\t {nx:=fun _ H'=>Q .non H',rt:=Q} (start N vs) H):ar P w K mg base aK (k+1) f fd ps sp:=by
 obtain⟨g,i,kV,j,l,o,a,ct,p,rfl,lk,d⟩:=F.ex;refine G_ lk d S len fun A outer s H vs Q E hr c=>?_;obtain⟨t,h,q⟩:=e a A outer s H vs Q E hr c;exact⟨t,h.nox,q⟩
def Fun.binds{x e:Str}{st:Stmt}{f:Addr}{fd:FuncData}{ps:List Str}(F:Fun K x e st f fd)(h:∀(kV a b:Value)(c:Option Addr)(d ct:Value)(us:List Value),us.length=ps.length->bindArgs (PySem.W.fnOf x e (zb1 st) (zal st) (ze st) .none kV a b c d ct) ⟨us,[]⟩=pure (ps.zip us)):Binds K fd ps []:=by
 obtain⟨g,i,kV,a,b,c,d,ct,j,rfl,lk,l⟩:=F.ex;exact .all (h kV a b c d ct)
def Mm{x a:Str}{st:Stmt}{f:Addr}{i:Value}{j g:Option Addr}{h:Array (Option Value)}{kV d e b ct:Value}(l:K.lookup f=some ⟨i,j,.func (PySem.W.fnOf x a (zb1 st) (zal st) (ze st) .none kV d e g b ct),h⟩)(c:PySem.W.codeIn K b a=true)(k:PySem.W.keepIn K (.ref f)=true):Fun K x a st f (PySem.W.fnOf x a (zb1 st) (zal st) (ze st) .none kV d e g b ct):=⟨⟨i,j,kV,d,e,g,b,ct,h,rfl,l,c⟩,k⟩
end
def y_{A:Around}{k:Nat}(hr:Room k A):A.units+1<cLine:=Ax (Nat.add_le_add_left (by decide:1<=64) _) hr.units
section
variable{X:Cx}
def pv(i:Nat){x:Str}{pos:Pos}(a:X.N[i]?=some x:=by rfl)(b:pq X.env.scope x:=by first|exact Or.inl rfl|exact Or.inr (Or.inl rfl)|exact Or.inr (Or.inr rfl))(hd:(x==("__debug__":Str))=false:=by decide)
  (c:(x==("__classdict__":Str))=false:=by decide):PE X (.Name x pos) (aw i):=Ll a b hd c
end
def aR{A B:Prop}(h:B):if false=true then A else B:=by
 rw[if_neg Aw];exact h
def aW{A B:Prop}(h:A):if true=true then A else B:=by
 rw[if_pos rfl];exact h
def eh{c A B:Prop}[Decidable c](h1:c->A)(h2:¬c->B):if c then A else B:=by
 by_cases h:c
 ·rw[if_pos h]
  exact h1 h
 ·rw[if_neg h]
  exact h2 h
def Same(H H':Hp):Prop:=∀b o,H b=some o->H' b=some o
def Same.refl(H:Hp):Same H H:=fun _ _ h=>h
def Same.trans{H H1 H2:Hp}(a:Same H H1)(b:Same H1 H2):Same H H2:=fun c o h=>b c o (a c o h)
def Same.free{H H':Hp}(e:Same H H'){l:Addr}(h:H' l=Option.none):H l=Option.none:=by
 cases q:H l with
 |none=>rfl
 |some o=>
  rw[e l o q] at h;cases h
def Same.seq{K:Af}{H H':Hp}{a:Addr}{xs:List V}(e:Same H H')(h:SqL K H a xs):SqL K H' a xs:=by
 rcases h with (h|⟨o,h⟩)|h
 ·exact .inl (.inl (e _ _ h))
 ·exact .inl (.inr ⟨o,e _ _ h⟩)
 ·exact .inr h
def clOf(cells:List (Str×Addr)):List (Str×NameKind)->List (Str×Addr)->List (Str×Addr)
 |[],acc=>acc
 |(n,k)::r,acc=>if(k==.free)=true then clOf cells r ((n,(cells.lookup n).getD 0)::acc) else clOf cells r acc
def Hw{env:Env}:∀(names:List (Str×NameKind))(acc:List (Str×Addr)),(∀x∈names,x.2=.free->∃c,env.cells.lookup x.1=some c)-> (forIn names acc fun x(r:List (Str×Addr))=>if(x.2==.free)=true then do let c <-cellOf env x.1;pure (ForInStep.yield ((x.1,c)::r)) else pure (ForInStep.yield r):Sem (List (Str×Addr)))=pure (clOf env.cells names acc)
 |[],acc,_=>rfl
 |(n,k)::r,acc,h=>by
  rw[List.forIn_cons];have b:=fun a=>Hw (env:=env) r a fun x hx=>h x (Ay _ hx);unfold clOf
  by_cases hk:(k==Bo)=true
  ·have d:k=.free:=by cases k<;>first|rfl|cases hk
   obtain⟨c,hc⟩:=h (n,k) At d;simp only[hk,if_true];unfold cellOf;rw[hc];simp only[pure_bind,Option.getD_some];exact b _
  ·simp only[hk,Bool.false_eq_true,if_false,pure_bind]
   exact b _
def Mn{scope:Scope}{env:Env}(h:∀x∈scope.names,x.2=.free->∃c,env.cells.lookup x.1=some c):closureFor scope env=pure (clOf env.cells scope.names []):=by
 rw[<-Hw scope.names [] h];unfold closureFor;simp
def Eo{x:Str}{c:Addr}:∀{l:List (Str×Addr)},(x,c)∈l->∃d,l.lookup x=some d
 |[],h=>nomatch h
 |(y,d)::l,h=>by
  rw[Bm]
  by_cases e:x=y
  ·subst e;exact⟨d,by simp⟩
  ·have hb:(x==y)=false:=by simpa using e
   rw[hb];rcases List.mem_cons.mp h with q|q
   ·cases q;exact absurd rfl e
   ·exact Eo q
def y'{cells:List (Str×Addr)}{x:Str}:∀{names:List (Str×NameKind)}{acc:List (Str×Addr)},((x,Bo)∈names\/∃c,(x,c)∈acc)->∃c,(x,c)∈clOf cells names acc
 |[],acc,h=>h.elim (fun q=>nomatch q) id
 |(n,k)::r,acc,h=>by
  unfold clOf
  by_cases hk:(k==Bo)=true
  ·rw[if_pos hk]
   refine y' ?_;rcases h with h|⟨c,h⟩
   ·rcases List.mem_cons.mp h with q|q
    ·cases q;exact .inr ⟨_,At⟩
    ·exact .inl q
   ·exact .inr ⟨c,Ay _ h⟩
  ·rw[if_neg hk]
   refine y' ?_;rcases h with h|h
   ·rcases List.mem_cons.mp h with q|q
    ·cases q;exact absurd rfl hk
    ·exact .inl q
   ·exact .inr h
def dF(X:Cx)(scope:Scope)(N:List Str)(a:List (Str×Addr))(C:Addr)(s₀:Shared)(H₀:Hp)(ex:List Addr):Cx where
 prog:=X.prog
 w:=X.w
 K:=X.K
 mg:=X.mg
 base:=X.base
 A:=X.A
 N:=N
 s₀:=s₀
 H₀:=H₀
 env:=compEnvC scope a C X.env
 outer:=X.stack
 stack:=X.stack
 ex:=ex
 fn:=fun _=>false
 calm:=X.calm
 pn:=X.pn
 xe:=fun _ _=>False
def gA(X:Cx)(aF:List Expr)(t:TT):Prop:=
 ∀(aa:Ψ)(s:Shared)(σ:St)(H:Hp)(Q:Bool->Hp->Prop),Inv X aa σ H s->t σ H Q->
  wpAny (model X.prog X.w) X.A (forIn aF true fun c r=>if r=true then do let ok <-isTrue c X.env (eval c X.env);pure (ForInStep.yield ok) else pure (ForInStep.yield r)) (TP X aa σ Q) X.xe s
def bx:TT:=fun _ H Q=>Q true H
def zA{X:Cx}:gA X [] bx:=fun _ _ _ H _ I h=>wpAny_tests_nil ⟨H,I,h⟩
def zc{X:Cx}{c:Expr}{t:TT}(h:PT X c t):gA X [c] t:=fun aa s σ H Q I hw=>wpAny_tests_one (h aa s σ H Q I hw)
def qI(al:List (Option Nat))(σ:St):St:=al.map fun c=>match c with
 |none=>none
 |some j=>(σ[j]?).getD none
def cm(J:It)(g:TG)(tc:TT)(te:TE)(σ:St)(H1:Hp)(D:Addr)(Q:VK):Prop:=
 ∃W:Nat->Nat->St->Hp->Prop,(∃m,W 0 m σ (upd H1 D (.lst [])))/\
 ∀i m d H2,W i m d H2->(J.stop i H2/\Q (.ref D) H2)\/(J.go i H2/\∀x h,J.yld i H2 x h->g x d h fun c j=>tc c j fun b e=>
  if b=true then te c e fun y f=>∃ys a,f D=some (.lst ys)/\ys.length<sizeLine/\a<m/\W (i+1) a c (upd f D (.lst (ys++[y])))
  else ∃a,a<m/\W (i+1) a c e)
def i6(wi:TI)(al:List (Option Nat))(g:TG)(tc:TT)(te:TE):TE:=fun σ H Q=>wi σ H fun J H1=>∀D,H1 D=none->cm J g tc te (qI al σ) H1 D Q
def m5(N N':List Str)(al:List (Option Nat))(scope:Scope):Prop:=
 al.length=N'.length/\∀i j:Nat,al[i]?=some (some j)->∃x:Str,N'[i]?=some x/\N[j]?=some x/\scope.names.lookup x=some .free
def A'{cells:List (Str×Addr)}{x:Str}{c:Addr}:∀{names:List (Str×NameKind)}{acc:List (Str×Addr)},(∀y∈names,y.2=.free->∃d,cells.lookup y.1=some d)->(∀p∈acc,False)->(x,c)∈clOf cells names acc->cells.lookup x=some c/\(x,Bo)∈names:=by
 have f:∀{names:List (Str×NameKind)}{acc:List (Str×Addr)},(∀y∈names,y.2=.free->∃d,cells.lookup y.1=some d)->(x,c)∈clOf cells names acc->(x,c)∈acc\/(cells.lookup x=some c/\(x,Bo)∈names):=by
  intro names
  induction names with
  |nil=>intro acc _ h;exact .inl h
  |cons y r g=>
   intro acc hn h;obtain⟨n,k⟩:=y;unfold clOf at h;have i:∀y∈r,y.2=.free->∃d,cells.lookup y.1=some d:=fun y hy=>hn y (Ay _ hy)
   by_cases hk:(k==Bo)=true
   ·have j:k=.free:=by cases k<;>first|rfl|cases hk
    obtain⟨d,hd⟩:=hn (n,k) At j;rw[if_pos hk] at h;rcases g i h with q|⟨b,e⟩
    ·rcases List.mem_cons.mp q with q|q
     ·refine .inr ⟨?_,?_⟩
      ·have a:cells.lookup n=some d:=hd
       rw[a] at q;cases q;exact a
      ·cases q
       rw[j];exact At
     ·exact .inl q
    ·exact .inr ⟨b,Ay _ e⟩
   ·rw[if_neg hk] at h
    rcases g i h with q|⟨b,e⟩
    ·exact .inl q
    ·exact .inr ⟨b,Ay _ e⟩
 intro names acc hn l h;rcases f hn h with q|q
 ·exact(l _ q).elim
 ·exact q
def cf_mem:∀(names:List (Str×NameKind))(h:Heap)(acc:List (Str×Addr))(x:Str)(c:Addr),(x,c)∈Bp h.objs.size names acc->(x,c)∈acc\/((x,NameKind.cell)∈names/\h.objs.size<=c/\(pushCells h names).IsCell c none)
 |[],h,acc,x,c,a=>.inl a
 |(n,k)::r,h,acc,x,c,a=>by
  rw[cellsFrom.eq_2] at a;have ep:pushCells h ((n,k)::r)=if(k==NameKind.cell)=true then pushCells (h.push {cls:=Value.type "cell",data:=Data.cell none}) r else pushCells h r:=rfl
  by_cases hk:(k==NameKind.cell)=true
  ·have f:k=.cell:=by cases k<;>first|rfl|cases hk
   rw[if_pos hk] at a;rw[ep,if_pos hk];have es:(h.push {cls:=Value.type "cell",data:=Data.cell none}).objs.size=h.objs.size+1:=Heap.size_push ..;rw[<-es] at a;rcases cf_mem r _ _ x c a with q|⟨d,b,e⟩
   ·rcases List.mem_cons.mp q with q|q
    ·cases q
     refine .inr ⟨by rw[f];exact At,Ae _,_,pushCells_keeps r _ _ _ (AK _ rfl),rfl⟩
    ·exact .inl q
   ·rw[es] at b
    exact .inr ⟨Ay _ d,Nat.le_of_succ_le b,e⟩
  ·rw[if_neg hk] at a
   rw[ep,if_neg hk];rcases cf_mem r h acc x c a with q|⟨d,b,e⟩
   ·exact .inl q
   ·exact .inr ⟨Ay _ d,b,e⟩
def Ep:∀(names:List (Str×NameKind))(n:Nat)(acc:List (Str×Addr)),(∀x y c,(x,c)∈acc->(y,c)∈acc->x=y)->(∀p∈acc,p.2<n)->∀x y c,(x,c)∈Bp n names acc->(y,c)∈Bp n names acc->x=y
 |[],n,acc,hi,_,x,y,c,h1,h2=>hi x y c h1 h2
 |(m,k)::r,n,acc,hi,hl,x,y,c,h1,h2=>by
  rw[cellsFrom.eq_2] at h1 h2
  by_cases hk:(k==NameKind.cell)=true
  ·rw[if_pos hk] at h1 h2
   refine Ep r (n+1) ((m,n)::acc) (fun x y c p q=>?_) (fun p hp=>?_) x y c h1 h2
   ·rcases List.mem_cons.mp p with p|p<;>rcases List.mem_cons.mp q with q|q
    ·cases p;cases q;rfl
    ·cases p
     have:n<n:=hl _ q;(first|lia|omega)
    ·cases q
     have:n<n:=hl _ p;(first|lia|omega)
    ·exact hi x y c p q
   ·rcases List.mem_cons.mp hp with rfl|hp
    ·exact Nat.lt_succ_self _
    ·exact Nat.lt_succ_of_lt (hl p hp)
  ·rw[if_neg hk] at h1 h2
   exact Ep r n acc hi hl x y c h1 h2
def Mo{M:Model}{A:Around}{E:Ω}{s:Shared}{scope:Scope}{g:Addr}{a:List (Str×Addr)}{i:Str}{env:Env}{Q:Env->Shared->Prop}(h:∀d:Heap,(d.Ns s⁻¹ fun _=>none)->(∀b o,s.heap.get? b=some o->d.get? b=some o)->
   (∀x c,(x,c)∈Bp (s⁻¹+1) scope.names a->(x,c)∈a\/((x,NameKind.cell)∈scope.names/\s⁻¹+1<=c/\d.IsCell c none))->
   Q (newEnv scope s⁻¹ g (Bp (s⁻¹+1) scope.names a) i none .none (some env) builtinsNs) {s with heap:=d}):
  wpAny M A (newFunctionEnv scope g a [] i none Value.none (some env)) Q E s:=by
 unfold newFunctionEnv;refine Ad (wpAny_alloc ?_);refine Ad (wpAny_layCells _ (fun name kind cells=>rfl) scope.names a _ _ ?_);have es:(s.heap.push {cls:=Value.type "dict",data:=Data.dict #[]}).objs.size=s⁻¹+1:=Heap.size_push ..;have:=h (pushCells (s.heap.push {cls:=Value.type "dict",data:=Data.dict #[]}) scope.names) ((Heap.Ns.new s.heap (.type "dict")).keeps fun b o e=>pushCells_keeps _ _ _ _ e) (fun b o e=>pushCells_keeps _ _ _ _ (Ai _ e)) (fun x c f=>by
  rw[<-es] at f ⊢;exact cf_mem scope.names _ a x c f)
 show wpAny M A _ _ _ _;refine Ad (Ao ?_);refine Ao ?_;rw[<-es] at this;exact this
def cxD(X:Cx)(scope:Scope)(N:List Str)(a:List (Str×Addr))(C:Addr)(s₀:Shared)(H₀:Hp)(ex:List Addr):Cx:={dF X scope N a C s₀ H₀ ex with fn:=fun x=>decide (scope.names.lookup x=some .cell)}
section
variable{X:Cx}{scope:Scope}{N':List Str}{al:List (Option Nat)}{tg iter aS:Expr}{aF:List Expr}{wi:TI}{g:TG}{tc:TT}{te:TE}{pos:Pos}
def Er{scope:Scope}{env:Env}{x:Str}:∀{names:List (Str×NameKind)},(names.lookup x=some .free\/names.lookup x=some .cell)-> ((names.map fun(n,k)=>if(k==Bo&&env.scope.kind==.function&&env.kindOf n==some .cell) then(n,NameKind.cell) else(n,k)).lookup x=some .free \/
   (names.map fun(n,k)=>if(k==Bo&&env.scope.kind==.function&&env.kindOf n==some .cell) then(n,NameKind.cell) else(n,k)).lookup x=some .cell)
 |[],h=>by simp at h
 |(n,k)::r,h=>by
  have a:=@Er scope env x r;show List.lookup x ((if(k==Bo&&env.scope.kind==.function&&env.kindOf n==some .cell)=true then(n,NameKind.cell) else(n,k))::_)=_\/List.lookup x ((if(k==Bo&&env.scope.kind==.function&&env.kindOf n==some .cell)=true then(n,NameKind.cell) else(n,k))::_)=_;cases hx:x==n with
  |true=>
   simp only[Bm,hx] at h
   by_cases hc:(k==Bo&&env.scope.kind==.function&&env.kindOf n==some .cell)=true
   ·rw[if_pos hc];simp[Bm,hx]
   ·rw[if_neg hc];simp only[Bm,hx];exact h
  |false=>
   simp only[Bm,hx] at h
   by_cases hc:(k==Bo&&env.scope.kind==.function&&env.kindOf n==some .cell)=true
   ·rw[if_pos hc];simp only[Bm,hx];exact a h
   ·rw[if_neg hc];simp only[Bm,hx];exact a h
def Es{env:Env}{x:Str}{a:NameKind}:∀{names:List (Str×NameKind)},(names.map fun(n,k)=>if(k==Bo&&env.scope.kind==.function&&env.kindOf n==some .cell) then(n,NameKind.cell) else(n,k)).lookup x=some a->
  ∃b,names.lookup x=some b/\(a=b\/(b=.free/\a=.cell))
 |[],h=>by simp at h
 |(n,k)::r,h=>by
  have c:=@Es env x a r;have h':List.lookup x ((if(k==Bo&&env.scope.kind==.function&&env.kindOf n==some .cell)=true then(n,NameKind.cell) else(n,k))::_)=some a:=h;cases hx:x==n with
  |true=>
   simp only[Bm,hx]
   by_cases hc:(k==Bo&&env.scope.kind==.function&&env.kindOf n==some .cell)=true
   ·rw[if_pos hc] at h'
    simp only[Bm,hx] at h';cases h';have hk:k=.free:=by
     rw[AU,AU] at hc;cases k<;>first|rfl|exact absurd hc.1.1 ξ
    exact⟨k,rfl,.inr ⟨hk,rfl⟩⟩
   ·rw[if_neg hc] at h'
    simp only[Bm,hx] at h';cases h';exact⟨_,rfl,.inl rfl⟩
  |false=>
   simp only[Bm,hx]
   by_cases hc:(k==Bo&&env.scope.kind==.function&&env.kindOf n==some .cell)=true
   ·rw[if_pos hc] at h';simp only[Bm,hx] at h';exact c h'
   ·rw[if_neg hc] at h';simp only[Bm,hx] at h';exact c h'
structure Left(X:Cx)(aa:Ψ)(σ:St)(H':Hp)(s4:Shared)(C:Addr):Prop where
 ns:∃m,s4.heap.Ns C m
 far:X.s₀⁻¹<=C
 nl:C≠X.env.locals
 nc:∀x c,X.env.cells.lookup x=some c->c≠C
 np:∀p∈X.pn++aa,p.1≠C
 no:H' C=none
 back:∀h',Heap.SameBut C s4.heap h'->Inv X aa σ H' {s4 with heap:=h'}
def Hx{use:Option (Value->Sem Unit)}{R:Ω}{pp:Pos}(hc:X.calm=true)(hk:scope.kind=.function)(bA:∀y∈scope.names,y.2=.cell->scope.names.lookup y.1=some .cell)(au:∀y∈scope.names,y.2=.free->scope.names.lookup y.1=some .free)(aq:∀y∈scope.names,y.2=.local->scope.names.lookup y.1=some .local)(hfr:∀y∈scope.names,y.2=.free->X.env.kindOf y.1=some .cell\/X.env.kindOf y.1=some .free)(hcap:m5 X.N N' al scope)(hi:PI X tg iter wi)(hg:∀cl C s₀ H₀ ex,PG (cxD X scope N' cl C s₀ H₀ ex) tg g)(ht:∀cl C s₀ H₀ ex,gA (cxD X scope N' cl C s₀ H₀ ex) aF tc)(he:∀cl C s₀ H₀ ex,PE (cxD X scope N' cl C s₀ H₀ ex) aS te)(hs:∀x,foldedSetIterable iter X.env x=pure x){aa:Ψ}{s:Shared}{σ:St}{H:Hp}{Q:VK}(I:Inv X aa σ H s)(h:i6 wi al g tc te σ H Q)(fin:∀(D C:Addr)(H':Hp)(P:Shared)(f:Flow),Left X aa σ H' P C->Q (.ref D) H'->compPost (model X.prog X.w) X.A X.xe use R (.ref D) C (.ok f) P):wpAny (model X.prog X.w) X.A (comprehension (.ListComp aS [⟨tg,iter,aF,0⟩] scope pos) scope X.env pp (newList []) (firstAsync [⟨tg,iter,aF,0⟩]) (firstIter [⟨tg,iter,aF,0⟩] X.env) use) R X.xe s:=by
 have S:∀y∈scope.names,y.2=.free->∃c,X.env.cells.lookup y.1=some c:=fun y hy e=>I.ok.has y.1 (hfr y hy e);refine wpAny_comprehension_free (use:=use) rfl hs (Mn S) hk aq ?_;refine aT (hi aa s σ H _ I h) fun xv s1 h1=>aT h1 fun mZ O h2=>?_;obtain⟨it,M,tn,J,H2,e,I2,T,e8,f2,q⟩:=h2;subst e;have jA:H2 O⁻¹=none:=I2.hok.fresh (Ae _);obtain⟨W,⟨m0,w0⟩,turn⟩:=q O⁻¹ jA;refine wpAny_newObj_type (Mo fun am cJ bR bO=>?_);dsimp only at cJ bR bO ⊢;generalize hD:O⁻¹=D at *;obtain⟨l,e3⟩:∃l:Shared,l={O with heap:=O.heap.push {cls:=.type "list",dict:=none,data:=.seq ([]:List Value).toArray}}:=⟨_,rfl⟩;have h3:l.heap=O.heap.push {cls:=.type "list",dict:=none,data:=.seq ([]:List Value).toArray}:=by rw[e3]
 rw[<-h3] at cJ bR bO ⊢;have U:l⁻¹=D+1:=by rw[h3,Heap.size_push,hD]
 have I3:Inv X aa σ (upd H2 D (.lst [])) l:=by
  rw[e3,<-hD];exact I2.lnew (t':=O.toks) (ys:=[]) .nil (AB _)
 obtain⟨Xc,E⟩:∃Xc,Xc=cxD X scope N' (Bp (l⁻¹+1) scope.names (clOf X.env.cells scope.names [])) l⁻¹ l (upd H2 D (.lst [])) M:=⟨_,rfl⟩;have rT:PG Xc tg g:=by rw[E];exact hg _ _ _ _ _
 have ht':gA Xc aF tc:=by rw[E];exact ht _ _ _ _ _
 have he':PE Xc aS te:=by rw[E];exact he _ _ _ _ _
 have xP:Xc.prog=X.prog:=by rw[E];rfl
 have xw:Xc.w=X.w:=by rw[E];rfl
 have xK:Xc.K=X.K:=by rw[E];rfl
 have xA:Xc.A=X.A:=by rw[E];rfl
 have xc:Xc.calm=true:=by rw[E];exact hc
 have xe:Xc.env=compEnvC scope (Bp (l⁻¹+1) scope.names (clOf X.env.cells scope.names [])) l⁻¹ X.env:=by rw[E];rfl
 have xE:Xc.xe=fun _ _=>False:=by rw[E];rfl
 have G:∀x c,(Bp (l⁻¹+1) scope.names (clOf X.env.cells scope.names [])).lookup x=some c->(X.env.cells.lookup x=some c/\scope.names.lookup x=some .free)\/(scope.names.lookup x=some .cell/\l⁻¹+1<=c/\am.IsCell c none):=fun x c e=>by
  rcases bO x c (PySem.mem_of_lookup e) with q|⟨q1,q2,q3⟩
  ·obtain⟨q4,q5⟩:=A' S (fun p hp=>absurd hp (by simp)) q
   exact .inl ⟨q4,au _ q5 rfl⟩
  ·exact .inr ⟨bA _ q1 rfl,q2,q3⟩
 have hlow:∀p∈clOf X.env.cells scope.names [],p.2<l⁻¹+1:=fun p hp=>by
  obtain⟨q4,_⟩:=A' S (fun p hp=>absurd hp (by simp)) (x:=p.1) (c:=p.2) hp;obtain⟨v,o,ho,_⟩:=I3.cell p.1 p.2 q4;exact Nat.lt_succ_of_lt (Ar ho)
 have Y:∀b∈M,b≠D/\b<D:=fun b hb=>by
  obtain⟨ob,eb,_⟩:=T.obj 0 _ e8 b hb;have:=Ar eb;rw[hD] at this;exact⟨Az this,this⟩
 have hfs:∀b∈frs X.stack,b<D:=fun b hb=>by
  obtain⟨_,ob,eb,_⟩:=I2.stack.mem hb;have:=Ar eb;rw[hD] at this;exact this
 have F:∀b o,l.heap.get? b=some o->am.get? b=some o:=bR;have vE:(upd H2 D (.lst [])) l⁻¹=none:=I3.hok.fresh (Ae _);have Ic:Inv Xc aa (qI al σ) (upd H2 D (.lst [])) {l with heap:=am}:=by
  have okc:Xc.Ok:=by
   rw[E];refine⟨I.ok.mod,hk,I.ok.glob,I.ok.blt,Ae _,fun x y c a b=>Ep scope.names _ _ (fun x y c p q=>I.ok.inj x y c (A' S (fun p hp=>absurd hp (by simp)) p).1 (A' S (fun p hp=>absurd hp (by simp)) q).1) hlow x y c (PySem.mem_of_lookup a) (PySem.mem_of_lookup b),fun x hx=>?_,(fun x c a e=>by
    rcases G x c e with ⟨_,q⟩|⟨_,q,_⟩
    ·have a':=of_decide_eq_true a
     rw[q] at a';cases a'
    ·exact Nat.le_of_succ_le q),I.ok.hd,I.ok.frames,.inl rfl,fun b hb=>⟨?_,fun x c e=>?_⟩,fun b o e=>?_,?_,fun b o e z=>?_,fun b hb z=>?_,?_,fun b hb=>?_⟩
   ·have iW:(relabel scope X.env).names.lookup x=some .cell\/(relabel scope X.env).names.lookup x=some .free:=hx
    have key:∃k',scope.names.lookup x=some k'/\(k'=.free\/k'=.cell):=by
     rcases iW with q|q
     ·obtain⟨k',e1,e2⟩:=Es q
      rcases e2 with e2|⟨e2,_⟩
      ·exact⟨k',e1,.inr e2.symm⟩
      ·exact⟨k',e1,.inl e2⟩
     ·obtain⟨k',e1,e2⟩:=Es q
      rcases e2 with e2|⟨e2,_⟩
      ·exact⟨k',e1,.inl e2.symm⟩
      ·exact⟨k',e1,.inl e2⟩
    obtain⟨k',e1,e2⟩:=key;have hm:=PySem.mem_of_lookup e1;rcases e2 with rfl|rfl
    ·obtain⟨c,jR⟩:=y' (cells:=X.env.cells) (acc:=[]) (.inl hm)
     obtain⟨d,hd⟩:=Eo jR;exact Option.isSome_iff_exists.mp (PySem.W.cellsFrom_some scope.names (l⁻¹+1) _ (.inr (by rw[hd];rfl)))
    ·exact Option.isSome_iff_exists.mp (PySem.W.cellsFrom_some scope.names (l⁻¹+1) _ (.inl e1))
   ·show b≠l⁻¹
    exact Az (by rw[U];exact Nat.lt_succ_of_lt (Y b hb).2)
   ·rcases G x c e with ⟨q,_⟩|⟨_,q,_⟩
    ·exact(f2 b hb).2.2.2.2.1 x c q
    ·have h1:b<l⁻¹+1:=by rw[U];exact Nat.lt_succ_of_lt (Nat.lt_succ_of_lt (Y b hb).2)
     exact Nat.ne_of_gt (Av h1 q)
   ·exact I3.bs b o e
   ·exact Ag I.ok.bsz I3.sz
   ·obtain⟨f,_,_,fx,_,_⟩:=f2 b z
    rcases fx with fx|fx
    ·exact I.ok.noex b o e fx
    ·have:=Av (Ar e) I.ok.bsz
     (first|lia|omega)
   ·rcases List.mem_cons.mp (I2.stkSub b z) with r|r
    ·exact(f2 b hb).2.1 r
    ·exact(f2 b hb).2.2.1 r
   ·exact I3.stack
   ·exact I3.stkFree b hb
  refine⟨okc,(by rw[E];rfl),I3.bare,?_,?_,fun x c e=>?_,?_,fun x c e=>?_,fun p hp=>?_,?_,?_⟩
  ·rw[E]
   exact Un.kept F
  ·rw[xe]
   refine⟨_,cJ,fun i x v e1 e2 e3=>?_⟩;obtain⟨c1,c2⟩:=hcap;unfold qI at e2;rw[Aj] at e2;cases e4:al[i]? with
   |none=>rw[e4] at e2;cases e2
   |some cc=>
    rw[e4] at e2;cases cc with
    |none=>cases e2
    |some j=>
     obtain⟨y,d1,d2,d3⟩:=c2 i j e4;have qK:N'[i]?=some x:=by rw[E] at e1;exact e1
     rw[d1] at qK;have yc:y=x:=AS qK;subst yc;have e5:σ[j]?=some (some v):=by
      simp only[Option.map_some,Option.some.injEq] at e2;cases e6:σ[j]? with
      |none=>rw[e6] at e2;cases e2
      |some ov=>rw[e6] at e2;simp only[Option.getD_some] at e2;rw[e2]
     have hm:=PySem.mem_of_lookup d3;have vK:pq X.env.scope y:=by
      rcases hfr _ hm rfl with q|q
      ·exact .inr (.inl q)
      ·exact .inr (.inr q)
     obtain⟨m,_,hl⟩:=I3.loc;obtain⟨u,ru,lk⟩:=hl j y v d2 e5 vK;refine⟨u,ru,?_⟩;have ul:∃c,X.env.cells.lookup y=some c/\l.heap.IsCell c (some u):=by
      rcases lk with ⟨k1,_⟩|⟨_,c,k2,k3⟩
      ·rcases hfr _ hm rfl with q|q
       ·rw[k1] at q;cases q
       ·rw[k1] at q;cases q
      ·exact⟨c,k2,k3⟩
     obtain⟨c,k2,k3⟩:=ul;obtain⟨d,hd'⟩:=y' (cells:=X.env.cells) (acc:=[]) (.inl hm);obtain⟨d',iD⟩:=Eo hd';obtain⟨d2,hd3⟩:=Option.isSome_iff_exists.mp (PySem.W.cellsFrom_some scope.names (l⁻¹+1) (clOf X.env.cells scope.names []) (x:=y) (.inr (by rw[iD];rfl)));have:c=d2:=by
      rcases G y d2 hd3 with ⟨q,_⟩|⟨q,_⟩
      ·rw[k2] at q
       exact AS q
      ·rw[d3] at q;cases q
     subst this;refine .inr ⟨?_,c,hd3,k3.keeps F⟩;have rl:=Er (scope:=scope) (env:=X.env) (x:=y) (names:=scope.names) (.inl d3);rcases rl with q|q
     ·exact .inr q
     ·exact .inl q
  ·rw[xe] at e
   rcases G x c e with ⟨q,_⟩|⟨_,_,q⟩
   ·obtain⟨v,k3⟩:=I3.cell x c q
    exact⟨v,k3.keeps F⟩
   ·exact⟨_,q⟩
  ·rw[xe];exact vE
  ·rw[xe] at e
   rcases G x c e with ⟨q,_⟩|⟨_,q,_⟩
   ·exact I3.freeC x c q
   ·exact I3.hok.fresh (Nat.le_of_succ_le q)
  ·have hp':p∈X.pn++aa:=by rw[E] at hp;exact hp
   obtain⟨a1,a2,a3,a4,a5⟩:=I3.pin p hp';refine⟨F _ _ a1,a2,?_,?_,a5⟩
   ·rw[xe]
    show p.1≠l⁻¹;exact Az (Ar a1)
   ·rw[E]
    intro z;rcases List.mem_cons.mp (I3.stkSub p.1 z) with r|r
    ·exact a3 r
    ·exact a4 r
  ·rw[xP,xw]
   exact I3.hok.kept F
  ·unfold qI
   rw[Aa,hcap.1,E]
   rfl
 have leave:∀{L:St}{H':Hp}{P:Shared}{h':Heap},Inv Xc aa L H' P->Heap.SameBut l⁻¹ P.heap h'->Inv X aa σ H' {P with heap:=h'}:=fun{L H' P h'} I4 ay=>by
  have hlt:∀b o,O.heap.get? b=some o->b≠D/\b≠l⁻¹:=fun b o e=>by
   have hb:=Ar e;rw[hD] at hb;exact⟨Az hb,Az (by rw[U];exact Nat.lt_succ_of_lt hb)⟩
  have up3:∀b o,O.heap.get? b=some o->l.heap.get? b=some o:=fun b o e=>by rw[h3];exact Ai _ e
  have base:Un (frs X.stack) M (upd H2 D (.lst [])) H' l.heap P.heap:=by
   have:=I4.base;rw[E] at this;exact this
  have hCn:H' l⁻¹=none:=by
   have:=I4.free;rw[xe] at this;exact this
  have os4:P.os=O.os:=by
   have:=I4.os;rw[E] at this;rw[this];show l.os=O.os;rw[e3]
  refine I2.call' (s':={P with heap:=h'}) (ch:=M) os4 ⟨fun b o q n hb hx=>?_,fun b o q n hb hx=>?_,fun b o q n hx=>?_,fun b o q hx=>?_,fun b xs q=>?_,fun b o u q=>?_,fun b ps q=>?_⟩ ?_ I4.bare fun b hb=>?_
  ·obtain⟨n1,n2⟩:=hlt b o q
   exact(ay.2 b n2).trans (base.keep b o (up3 b o q) (by rw[ao n1];exact n) hb hx)
  ·obtain⟨n1,n2⟩:=hlt b o q
   obtain⟨sl,e⟩:=base.slot b o (up3 b o q) (by rw[ao n1];exact n) hb hx;exact⟨sl,(ay.2 b n2).trans e⟩
  ·obtain⟨n1,n2⟩:=hlt b o q
   exact base.free b o (up3 b o q) (by rw[ao n1];exact n) hx
  ·obtain⟨n1,n2⟩:=hlt b o q
   obtain⟨o',e⟩:=base.there b o (up3 b o q) hx;exact⟨o',(ay.2 b n2).trans e⟩
  ·exact base.tups b xs (by rw[ao (zk q jA)];exact q)
  ·exact base.frzs b o u (by rw[ao (zk q jA)];exact q)
  ·exact base.tbls b ps (by rw[ao (zk q jA)];exact q)
  ·intro b u e
   have j3:=I4.hok b u e;rw[xP,xw] at j3;refine j3.stay (fun c v hc q=>(ay.2 c ?_).trans q) (fun _ q=>q) fun _ _ q=>q;rintro rfl;rcases hc with z|z
   ·rw[<-z,hCn] at e;cases e
   ·rw[hCn] at z;cases z
  ·obtain⟨f0,f1,f3,f4,f5,f6⟩:=f2 b hb
   exact⟨f4,f1,f5,f6⟩
 have Z:∀{H':Hp},(∀b∈M,H' b=none)->∀b∈M,cb Xc aa H' b:=fun{H'} hn b hb=>by
  obtain⟨f0,f1,f3,f4,f5,f6⟩:=f2 b hb;refine⟨hn b hb,?_,?_,.inl (by rw[E];exact hb),fun x c e=>?_,fun p hp=>?_⟩
  ·rw[xe]
   show b≠l⁻¹;exact Az (by rw[U];exact Nat.lt_succ_of_lt (Y b hb).2)
  ·rw[E]
   intro z;rcases List.mem_cons.mp (I2.stkSub b z) with r|r
   ·exact f1 r
   ·exact f3 r
  ·rw[xe] at e
   rcases G x c e with ⟨q,_⟩|⟨_,q,_⟩
   ·exact f5 x c q
   ·have h1:b<l⁻¹+1:=by rw[U];exact Nat.lt_succ_of_lt (Nat.lt_succ_of_lt (Y b hb).2)
    exact Nat.ne_of_gt (Av h1 q)
  ·rw[E] at hp
   exact f6 p hp
 subst E;have jv:∀n s',(∃i L H',Inv (cxD X scope N' (Bp (l⁻¹+1) scope.names (clOf X.env.cells scope.names [])) l⁻¹ l (upd H2 D (.lst [])) M) aa L H' s'/\tn i s'.heap/\(∀b∈M,H' b=none)/\W i n L H')->
   codeAny (model X.prog X.w) X.A (.compLoop (.ListComp aS [⟨tg,iter,aF,0⟩] scope pos) 0 (.ref it) (.ref D) (compEnvC scope (Bp (l⁻¹+1) scope.names (clOf X.env.cells scope.names [])) l⁻¹ X.env)) (compPost (model X.prog X.w) X.A X.xe use R (.ref D) l⁻¹) s':=by
  intro n0 Cs vp;refine codeAny_loop rfl (fun n s'=>∃i L H',Inv (cxD X scope N' (Bp (l⁻¹+1) scope.names (clOf X.env.cells scope.names [])) l⁻¹ l (upd H2 D (.lst [])) M) aa L H' s'/\tn i s'.heap/\(∀b∈M,H' b=none)/\W i n L H') (fun n s' hI=>?_) n0 vp;obtain⟨i,L,H',I',ac,dq,w'⟩:=hI;show wpAny _ X.A ((compTurn (.ListComp aS [⟨tg,iter,aF,0⟩] scope pos) 0 (.ref it) (.ref D) (compEnvC scope (Bp (l⁻¹+1) scope.names (clOf X.env.cells scope.names [])) l⁻¹ X.env)).onRaise (fun x=>do noteFrame x (compEnvC scope (Bp (l⁻¹+1) scope.names (clOf X.env.cells scope.names [])) l⁻¹ X.env);theTreesLotGoes x)) _ _ s';refine wpAny_noted ?_;rw[compTurn_list];refine Ad (wpAny_standAt (Ad ?_));rcases turn i n L H' w' with ⟨stop,qn⟩|⟨go,step⟩
  ·refine aT (T.done (cxD X scope N' (Bp (l⁻¹+1) scope.names (clOf X.env.cells scope.names [])) l⁻¹ l (upd H2 D (.lst [])) M) rfl rfl rfl hc i aa s' L H' _ I' (Z dq) ac stop) fun r P ⟨hr,I4⟩=>?_
   subst hr;refine Ao ?_;obtain⟨m,hn,_⟩:=id I4.loc;refine fin D _ H' P _ ⟨⟨m,hn⟩,I3.sz,fun e=>?_,fun x c e=>?_,fun p hp=>Az (Ar (I3.pin p hp).1),I4.free,fun h' ay=>leave I4 ay⟩ qn
   ·obtain⟨m3,tX,_⟩:=I3.loc
    obtain⟨o3,_,_,l8,_⟩:=tX;exact absurd e.symm (Az (Ar l8))
   ·obtain⟨v,hv⟩:=I3.cell x c e
    obtain⟨o3,l8,_⟩:=hv;exact Az (Ar l8)
  ·refine aT (T.item (cxD X scope N' (Bp (l⁻¹+1) scope.names (clOf X.env.cells scope.names [])) l⁻¹ l (upd H2 D (.lst [])) M) rfl rfl rfl hc i aa s' L H' _ I' (Z dq) ac go) fun r P ⟨u,hr,h4⟩=>?_
   subst hr;refine Ad (aT h4 fun _ s5 ⟨x,H5,I5,r5,y5,st5,fr5⟩=>?_);have lG:=I5.pinned (Z fr5) (T.obj _ _ st5);refine Ad (wpAny_mono (rT _ s5 L H5 x u _ lG r5 (step x H5 y5)) (fun _ s6 h6=>?_) fun _ _ z=>z.elim);obtain⟨iX,H6,I6,q6⟩:=h6;refine Ad (wpAny_mono (ht' _ s6 iX H6 _ I6 q6) (fun ok s7 h7=>?_) fun _ _ z=>z.elim);obtain⟨H7,I7,q7⟩:=h7;have again:∀{jL:St}{H8:Hp}{s8:Shared}{m':Nat},Inv (cxD X scope N' (Bp (l⁻¹+1) scope.names (clOf X.env.cells scope.names [])) l⁻¹ l (upd H2 D (.lst [])) M) (aa++pR M s5.heap) jL H8 s8->m'<n->W (i+1) m' jL H8->
     ∃m,m<n/\∃i L H',Inv (cxD X scope N' (Bp (l⁻¹+1) scope.names (clOf X.env.cells scope.names [])) l⁻¹ l (upd H2 D (.lst [])) M) aa L H' s8/\tn i s8.heap/\(∀b∈M,H' b=none)/\W i m L H':=fun{jL H8 s8 m'} I8 hm w8=>by
    refine⟨m',hm,i+1,jL,H8,I8.unpinned,T.keep _ _ _ st5 fun b hb o e=>(I8.pin (b,o) (AE _ (AE _ (xN hb e)))).1,fun b hb=>?_,w8⟩;obtain⟨o,e,d⟩:=T.obj _ _ st5 b hb;exact(I8.pin (b,o) (AE _ (AE _ (xN hb e)))).2.1
   cases ok with
   |false=>
    obtain⟨m',hm,w7⟩:=q7;exact Ao ⟨rfl,again I7 hm w7⟩
   |true=>
    refine Ad (Ad (wpAny_mono (he' _ s7 iX H7 _ I7 q7) (fun v s8 h8=>?_) fun _ _ z=>z.elim));obtain⟨y,H8,I8,r8,ys,m',kW,xM,rB,w8⟩:=h8;refine Ad (wpAny_mono (yJ (X:=cxD X scope N' (Bp (l⁻¹+1) scope.names (clOf X.env.cells scope.names [])) l⁻¹ l (upd H2 D (.lst [])) M) _ s8 iX H8 (.ref D) [y] (.ref D) [v] (fun _ H9=>H9=upd H8 D (.lst (ys++[y]))) I8 rfl (.cons r8 .nil) ⟨D,ys,y,rfl,rfl,kW,xM,rfl⟩) (fun _ s9 h9=>?_) fun _ _ z=>z.elim);obtain⟨_,H9,I9,_,e9⟩:=h9;subst e9;exact Ao (Ao ⟨rfl,again I9 rB w8⟩)
 have start:∃i L H',Inv (cxD X scope N' (Bp (l⁻¹+1) scope.names (clOf X.env.cells scope.names [])) l⁻¹ l (upd H2 D (.lst [])) M) aa L H' {l with heap:=am}/\tn i ({l with heap:=am}:Shared).heap/\(∀b∈M,H' b=none)/\W i m0 L H':=by
  refine⟨0,qI al σ,upd H2 D (.lst []),Ic,T.keep 0 _ _ e8 fun b hb o e=>F b o (by rw[h3];exact Ai _ e),fun b hb=>?_,w0⟩;rw[ao (Y b hb).1];exact(f2 b hb).1
 have es:({O with heap:=am}:Shared)={l with heap:=am}:=by rw[e3]
 show codeAny (model X.prog X.w) X.A _ _ ({O with heap:=am}:Shared);rw[es];refine codeAny_compStart_list (jv m0 _ start) (T.self _ 0 _ _ _ ?_ (jv m0 _ start));exact T.keep 0 _ _ e8 fun b hb o e=>F b o (by rw[h3];exact Ai _ e)
def nf(b:∀y∈scope.names,y.2≠.cell)(a:List (Str×Addr))(C:Addr)(s₀:Shared)(H₀:Hp)(ex:List Addr):dF X scope N' a C s₀ H₀ ex=cxD X scope N' a C s₀ H₀ ex:=by
 unfold cxD;have:(fun x=>decide (scope.names.lookup x=some NameKind.cell))=fun _=>false:=by
  funext x
  exact decide_eq_false fun e=>b _ (PySem.mem_of_lookup e) rfl
 rw[this]
 rfl
def Mp{use:Option (Value->Sem Unit)}{R:Ω}{pp:Pos}(hc:X.calm=true)(hk:scope.kind=.function)(c:∀y∈scope.names,y.2≠.cell)(i:∀y∈scope.names,y.2=.free->scope.names.lookup y.1=some .free)(j:∀y∈scope.names,y.2=.local->scope.names.lookup y.1=some .local)(hfr:∀y∈scope.names,y.2=.free->X.env.kindOf y.1=some .cell\/X.env.kindOf y.1=some .free)(b:m5 X.N N' al scope)(hi:PI X tg iter wi)(hg:∀a C s₀ H₀ ex,PG (dF X scope N' a C s₀ H₀ ex) tg g)(l:∀a C s₀ H₀ ex,gA (dF X scope N' a C s₀ H₀ ex) aF tc)(o:∀a C s₀ H₀ ex,PE (dF X scope N' a C s₀ H₀ ex) aS te)(p:∀x,foldedSetIterable iter X.env x=pure x){aa:Ψ}{s:Shared}{σ:St}{H:Hp}{Q:VK}(I:Inv X aa σ H s)(h:i6 wi al g tc te σ H Q)(fin:∀(D C:Addr)(H':Hp)(d:Shared)(f:Flow),Left X aa σ H' d C->Q (.ref D) H'->compPost (model X.prog X.w) X.A X.xe use R (.ref D) C (.ok f) d):wpAny (model X.prog X.w) X.A (comprehension (.ListComp aS [⟨tg,iter,aF,0⟩] scope pos) scope X.env pp (newList []) (firstAsync [⟨tg,iter,aF,0⟩]) (firstIter [⟨tg,iter,aF,0⟩] X.env) use) R X.xe s:=
 Hx hc hk (fun y hy e=>absurd e (c y hy)) i j hfr b hi (fun a C s₀ H₀ ex=>nf (X:=X) (N':=N') c a C s₀ H₀ ex▸hg a C s₀ H₀ ex) (fun a C s₀ H₀ ex=>nf (X:=X) (N':=N') c a C s₀ H₀ ex▸l a C s₀ H₀ ex) (fun a C s₀ H₀ ex=>nf (X:=X) (N':=N') c a C s₀ H₀ ex▸o a C s₀ H₀ ex) p I h fin
def Mq(hc:X.calm=true)(hk:scope.kind=.function)(c:∀y∈scope.names,y.2≠.cell)(e:∀y∈scope.names,y.2=.free->scope.names.lookup y.1=some .free)(i:∀y∈scope.names,y.2=.local->scope.names.lookup y.1=some .local)(hfr:∀y∈scope.names,y.2=.free->X.env.kindOf y.1=some .cell\/X.env.kindOf y.1=some .free)(b:m5 X.N N' al scope)(hi:PI X tg iter wi)(hg:∀a C s₀ H₀ ex,PG (dF X scope N' a C s₀ H₀ ex) tg g)(j:∀a C s₀ H₀ ex,gA (dF X scope N' a C s₀ H₀ ex) aF tc)(l:∀a C s₀ H₀ ex,PE (dF X scope N' a C s₀ H₀ ex) aS te)(o:∀x,foldedSetIterable iter X.env x=pure x:=by intro _;rfl):PE X (.ListComp aS [⟨tg,iter,aF,0⟩] scope pos) (i6 wi al g tc te):=by
 intro aa s σ H Q I h;rw[eval_ListComp];refine Mp (use:=none) hc hk c e i hfr b hi hg j l o I h fun D C H' p f L q=>?_;obtain⟨m,hn⟩:=L.ns;exact⟨m,hn,fun h' d=>⟨.ref D,H',L.back h' d,rfl,q⟩⟩
end
def Mr(f:Array Value->Array Value)(o:Obj):(o.mapFields f).dict=o.dict:=by unfold Obj.mapFields;split<;>rfl
def Xc(h:Heap)(x:Addr)(C:Value)(T:Option Addr):Prop:=
 ∃b vs,h.get? x=some b/\b.cls=C/\b.dict=none/\b.data=.fields vs/\1<vs.size/\((T=none/\vs[1]?=some .none)\/∃a c d,T=some a/\vs[1]?=some (.ref a)/\a≠x/\h.get? a=some c/\c.data=.fields d/\d[3]?=some .none)
def nj(fr:List Addr)(x:Addr)(T:Option Addr)(h h':Heap):Prop:=
 (∀b o,h.get? b=some o->b≠x->T≠some b->b∉fr->h'.get? b=some o)/\(∀b o,h.get? b=some o->b∈fr->∃a,h'.get? b=some {o with slots:=a})/\h.objs.size<=h'.objs.size
section
variable{M:Model}{A:Around}{E:Ω}{s:Shared}
def Br{base:Heap}{env:Env}{outer:List Env}{L x:Addr}{i:Obj}{vs:Array Value}{head:Value}{P:Bool}{Q:Unit->Shared->Prop}(hfr:A.frames=some (env::outer))(F:s.heap.FunFrames base (env::outer))(S:env.frame=some L)(G:s.heap.get? x=some i)(w:i.dict=none)(hd:i.data=.fields vs)(hsz:1<vs.size)(h:∀h' T',s⁻¹<=T'->Xc h' x i.cls (some T')->nj ((env::outer).filterMap (·.frame)) x none s.heap h'->Q () {s with heap:=h'}):wpAny M A (do let a <-frameOf env;let pl <-entryPlaceOf L P;let b <-EntryCells.newEntry head a .none (rawInt L) .none pl;setField (.ref x) 1 b) (fun _ s'=>wpAny M A (setFlight (.ref x) none) Q E s') E s:=by
 have d:x∉(env::outer).filterMap (·.frame):=fun H=>by
  obtain⟨_,o,l,J⟩:=F.mem H;rw[G] at l;injection l with l;subst l;exact J vs hd
 refine Ad (wpAny_frameOf_fun hfr F S fun c j=>?_);refine Ad (wpAny_entryPlaceOf fun pl g=>?_);unfold EntryCells.newEntry newFields;refine Ad (wpAny_newObj_type ?_ (g.sizeOk5 _ _ _ _ _));have y:c.get? x=some i:=(j.2.1 x d).trans G;have z:=Ai (h:=c) {cls:=.type "traceback",dict:=none,data:=.fields ([head,.ref L,.none,rawInt L,.none]++(if pl.isEmpty then Au 6 Value.none else pl)).toArray} y;refine wpAny_setField z hd hsz ?_;have r:c.objs.size≠x:=Nat.ne_of_gt (Ar y);have u:=Obj.data_mapFields hd (·.setIfInBounds 1 (Value.ref c.objs.size));have C:=Heap.get?_update_self (Obj.mapFields (·.setIfInBounds 1 (Value.ref c.objs.size))) z (Obj.isFreed_of_fields u);have D:=(Heap.get?_update_other (c.push {cls:=.type "traceback",dict:=none,data:=.fields ([head,.ref L,.none,rawInt L,.none]++(if pl.isEmpty then Au 6 Value.none else pl)).toArray})
  (Obj.mapFields (·.setIfInBounds 1 (Value.ref c.objs.size))) (Ne.symm r)).trans (AK c rfl)
 unfold setFlight;refine Ad (Bl C u (x:=.ref c.objs.size) (by simp[hsz]) ?_);rw[if_pos (show(Value.ref c.objs.size != Value.none)=true from by simp)];have T:c.objs.size=s⁻¹:=j.1;refine wpAny_setField D rfl (by simp only[AC,AJ,AO,List.length_nil]<;>(first|lia|omega)) (h _ c.objs.size ω ?_ ?_)
 ·refine⟨_,_,?_,Obj.cls_mapFields _ _,(Mr _ _).trans w,u,by simpa using hsz,.inr ⟨c.objs.size,_,_,rfl,by simp[hsz],r,Heap.get?_update_self _ D (Obj.isFreed_of_fields (Obj.data_mapFields rfl _)),Obj.data_mapFields rfl _,?_⟩⟩
  ·rw[Heap.get?_update_other _ _ r];exact C
  ·first|(simp;done)|(rcases g with rfl|⟨_,_,_,_,_,_,_,rfl⟩<;>simp)
 ·have keep:∀b o,b≠x->c.get? b=some o->
    (((c.push {cls:=.type "traceback",dict:=none,data:=.fields ([head,.ref L,.none,rawInt L,.none]++(if pl.isEmpty then Au 6 Value.none else pl)).toArray}).update x (Obj.mapFields (·.setIfInBounds 1 (Value.ref c.objs.size)))).update c.objs.size
     (Obj.mapFields (·.setIfInBounds 3 ((none:Option Addr).elim Value.none fun f=>rawInt f)))).get? b=some o:=fun b o p hb=>by
   have v:c.objs.size≠b:=Nat.ne_of_gt (Ar hb);rw[Heap.get?_update_other _ _ v,Heap.get?_update_other _ _ (Ne.symm p)];exact Ai _ hb
  refine⟨fun b o hb I _ q=>keep b o I ((j.2.1 b q).trans hb),fun b o hb q=>?_,?_⟩
  ·obtain⟨N,O⟩:=j.2.2 b o hb
   exact⟨N,keep b _ (fun e=>d (e▸q)) O⟩
  ·rw[Heap.size_update,Heap.size_update,Heap.size_push]
   show s⁻¹<=c.objs.size+1;(first|lia|omega)
def Ms{base:Heap}{env:Env}{outer:List Env}{L x:Addr}{C:Value}{T:Option Addr}{Q:Unit->Shared->Prop}(hfr:A.frames=some (env::outer))(p:s.heap.FunFrames base (env::outer))(r:env.frame=some L)(c:Xc s.heap x C T)(h:∀h' T',s⁻¹<=T'->Xc h' x C (some T')->nj ((env::outer).filterMap (·.frame)) x T s.heap h'->Q () {s with heap:=h'}):wpAny M A (leaving env (.ref x)) Q E s:=by
 obtain⟨G,vs,c,rfl,f,hd,hsz,h1⟩:=c;unfold leaving noteFrame;simp only[r];rcases h1 with ⟨rfl,h1⟩|⟨a,H,D,rfl,h1,F,j,l,v⟩
 ·refine Ad (Ad (Bl c hd h1 ?_))
  rw[if_neg ξ];exact Br hfr p r c f hd hsz h
 ·refine Ad (Ad (Bl c hd h1 ?_))
  rw[if_pos (show(Value.ref a != Value.none)=true from by simp)];refine Ad (Bl j l v ?_);rw[if_neg (show ¬((Value.none==rawInt L)=true) from by simp[rawInt])];refine Ad (wpAny_setField j l (Array.getElem?_eq_some_iff.mp v).1 ?_);have other:∀b,b≠a->(s.heap.update a (Obj.mapFields (·.setIfInBounds 3 Value.none))).get? b=s.heap.get? b:=fun b hb=>Heap.get?_update_other _ _ (Ne.symm hb);have y:∀b o,s.heap.get? b=some o->(∀vs,o.data≠.fields vs)->b≠a:=fun b o hb d q=>by
   rw[q,j] at hb;injection hb with hb;subst hb;exact d D l
  refine Br hfr (p.of_keeps fun b o hb d=>⟨o,(other b (y b o hb d)).trans hb,rfl⟩) r ((other x (Ne.symm F)).trans c) f hd hsz fun h' T' u hx hk=>h h' T' (by rw[Heap.size_update] at u;exact u) hx ?_;obtain⟨k1,k2,k3⟩:=hk;refine⟨fun b o hb z i g=>k1 b o ((other b fun e=>i (by rw[e])).trans hb) z (by simp) g,fun b o hb g=>?_,by rw[Heap.size_update] at k3;exact k3⟩;obtain⟨_,o',w,d⟩:=p.mem g;rw[hb] at w;cases w;exact k2 b o ((other b (y b o hb d)).trans hb) g
end
def jQ(P:Program)(w:World):eP:=fun outer H s E e s'=>∃(x C:Addr)(T:Option Addr)(H':Hp),e=.ref x/\s'.os=s.os/\AllBare s'.gens/\Un (frs outer) [] H H' s.heap s'.heap/\HOk P w H' s'.heap/\
 H' x=none/\s.heap.get? x=none/\(∀a,T=some a->H' a=none/\s.heap.get? a=none)/\Xc s'.heap x (.ref C) T/\E e (some C) H'
def Hy{P:Program}{w:World}{H:Hp}{h h':Heap}{fr:List Addr}{x:Addr}{T:Option Addr}(f:HOk P w H h)(k:nj fr x T h h')(hx:H x=none)(g:∀a,T=some a->H a=none)(i:∀b∈fr,H b=none):HOk P w H h':=by
 intro b u e;refine(f b u e).stay (fun c v hc q=>k.1 c v q ?_ ?_ ?_) (fun _ q=>q) fun _ _ q=>q
 all_goals
  have d:H c≠none:=by
   rcases hc with z|z
   ·rw[z,e];simp
   ·rw[z];simp
 ·exact fun z=>d (z▸hx)
 ·exact fun z=>d (g c z)
 ·exact fun z=>d (i c z)
def Mt{P:Program}{w:World}{K:Af}{mg:Str->Option Value}{base:Heap}{N:List Str}{g:Str}{scope:Scope}{f:Addr}{h:Value}{A:Around}{outer:List Env}{s:Shared}{H:Hp}{E:XK}{aa:Ψ}{σ:St}{H':Hp}{s':Shared}{x C:Addr}{T:Option Addr}(I:Inv (bG (jQ P w) P w K mg base N g scope f h A outer s H E) aa σ H' s')(hx:Xc s'.heap x (.ref C) T)(p:H' x=none)(r:s.heap.get? x=none)(u:∀a,T=some a->H' a=none/\s.heap.get? a=none)(J:E (.ref x) (some C) H'):(bG (jQ P w) P w K mg base N g scope f h A outer s H E).xe (.ref x) s':=by
 show wpAny (model P w) (A.deeper (envOfC g scope s⁻¹ f h)) (leaving (envOfC g scope s⁻¹ f h) (.ref x)) _ _ s';refine Ms I.ok.frames I.stack rfl hx fun h' T' l v hk=>?_;have hfr:=I.stkFree;have hsz:s⁻¹<=s'⁻¹:=I.sz;have old:∀b o,s.heap.get? b=some o->b≠x/\T≠some b/\b≠s⁻¹:=fun b o e=>by
  have hb:=Ar e;exact⟨fun z=>(by rw[z,r] at e;cases e),fun z=>(by rw[(u b z).2] at e;cases e),Az hb⟩
 have up:∀b o o',s.heap.get? b=some o->s'.heap.get? b=some o'->b∉frs outer->h'.get? b=some o':=fun b o o' e c hb=>by
  obtain⟨n1,n2,D⟩:=old b o e;refine hk.1 b o' c n1 n2 fun y=>?_;have F:b∈s⁻¹::frs outer:=y;rcases List.mem_cons.mp F with z|z
  ·exact D z
  ·exact hb z
 have d:∀b o',s'.heap.get? b=some o'->b∈frs outer->∃j,h'.get? b=some {o' with slots:=j}:=fun b o' c hb=>hk.2.1 b o' c (show b∈s⁻¹::frs outer from Ay _ hb);have i:∀b:Addr,b∉(bG (jQ P w) P w K mg base N g scope f h A outer s H E).ex:=fun b z=>absurd (show b∈([]:List Addr) from z) (by simp);refine⟨x,C,some T',H',rfl,I.os,I.bare,⟨fun b o q n hb hx=>?_,fun b o q n hb hx=>?_,fun b o q n hx=>I.base.free b o q n (i b),fun b o q hx=>?_,I.base.tups,I.base.frzs,I.base.tbls⟩,Hy I.hok hk p (fun a e=>(u a e).1) hfr,p,r,fun a e=>?_,v,J⟩
 ·exact up b o o q (I.base.keep b o q n hb (i b)) hb
 ·obtain⟨j,e⟩:=I.base.slot b o q n hb (i b)
  obtain⟨G,c⟩:=d b _ e hb;exact⟨G,c⟩
 ·obtain⟨o',e⟩:=I.base.there b o q (i b)
  by_cases hb:b∈frs outer
  ·obtain⟨j,c⟩:=d b o' e hb
   exact⟨_,c⟩
  ·exact⟨o',up b o o' q e hb⟩
 ·cases e
  refine⟨I.hok.fresh l,?_⟩;cases q:s.heap.get? T' with
  |none=>rfl
  |some o=>exact absurd (Ar q) (Nat.not_lt.mpr (Ag hsz l))
def Fun.ok1{P:Program}{w:World}{K:Af}{mg:Str->Option Value}{base:Heap}{x b:Str}{st:Stmt}{f:Addr}{fd:FuncData}{N ps:List Str}{k:Nat}{sp:Sp}(F:Fun K x b st f fd)(S:zm N ps (ze st))(len:∀vs H Q E,sp vs H Q E->vs.length=ps.length)(e:∀(a:Value)(A:Around)(outer:List Env)(s:Shared)(H:Hp)(vs:List V)(Q:VK)(E:XK),Room k (A.deeper (envOfC b (ze st) s⁻¹ f a))->sp vs H Q E->
   ∃t,PSs (bG (jQ P w) P w K mg base N b (ze st) f a A outer s H E) (zal st) t/\t {nx:=fun _ H'=>Q .non H',rt:=Q} (start N vs) H):ar P w K mg base (jQ P w) (k+1) f fd ps sp:=by
 obtain⟨g,h,kV,i,j,l,a,ct,o,rfl,lk,d⟩:=F.ex;exact G_ lk d S len fun A outer s H vs Q E hr c=>e a A outer s H vs Q E hr c
def Mu{P:Program}{w:World}{H:Hp}{h:Heap}{a:Addr}{o:HO}(x:zW P w H h a o):∃b,h.get? a=some b:=by
 cases o with
 |lst xs=>obtain⟨_,_,_,_,e⟩:=x;exact⟨_,e⟩
 |tup xs=>obtain⟨_,_,_,o,e,_⟩:=x;exact⟨_,e⟩
 |dK kvs=>obtain⟨_,_,_,_,o,_,_,e,_⟩:=x;exact⟨_,e⟩
 |dT kvs=>obtain⟨_,_,_,_,o,_,_,e,_⟩:=x;exact⟨_,e⟩
 |set S n=>obtain⟨o,_,_,_,e,_⟩:=x;exact⟨_,e⟩
 |ins C dx fs=>obtain⟨_,_,_,e,_⟩:=x;exact⟨_,e⟩
 |own y=>exact x
 |xd fs=>obtain⟨_,⟨_,_,_,e,_⟩,_⟩:=x;exact⟨_,e⟩
 |met f y=>exact⟨_,x⟩
 |rng lo hi=>obtain⟨_,_,_,e⟩:=x;exact⟨_,e⟩
 |frz b u=>exact⟨_,x.1⟩
 |tbl ps=>exact⟨_,x⟩
 |ext φ=>exact x.2.1
def Et{K:Af}{h:Heap}{C:Addr}{c:List Value}{p:String}(X:K.In h)(q:PySem.W.excIn K C c p=true):∃bm N nm b bs hdct sn sub ab col dd k0 k1 k2 k3 k5,∃f:Str->Option Value,f "__init__"=none/\(∀T,c.contains (.type T)=true->bm.contains (.type T)=true)/\∀h':Heap,K.In h'->h'.get? C=some (excClassObj nm b C N bs bm hdct sn sub ab col dd k0 k1 k2 k3 k5 p)/\h'.Ns N f/\OwnTail h' c bm:=by
 unfold PySem.W.excIn at q;split at q
 ·rename_i dd cd sl ho
  split at q
  ·rename_i C' bm k0 k1 k2 k3 n k5 hm hs
   simp only[AU,beq_iff_eq,Bool.not_eq_true'] at q;obtain⟨⟨⟨⟨⟨rfl,rfl⟩,g⟩,i⟩,a⟩,j⟩:=q;obtain⟨nm,bs,mro,ns,b,hd,sn,sub,ab,col,v⟩:=cd;dsimp only at hm g a j;subst hm g;have s:sl=#[k0,k1,k2,k3,some (.builtin n),k5]:=by
    obtain⟨l⟩:=sl;simp only at hs;rw[hs]
   subst s;refine⟨bm,ns,nm,b,bs,hd,sn,sub,ab,col,dd,k0,k1,k2,k3,k5,h.nsMap ns,PySem.W.nsMap_none_of_in X a j,fun T r=>(PySem.W.tail_of_in X i).hasType r,fun h' d=>⟨d _ _ ho,?_,PySem.W.tail_of_in d i⟩⟩;have u:h.Ns ns (h.nsMap ns):=.of_isNs (PySem.W.isNs_of_in X a);unfold PySem.W.nsOkIn at a;split at a
   ·rename_i c1 d1 es1 ep1 sl1 jb
    exact u.at' fun o e=>by
     rw[X _ _ jb] at e;rw[<-e];exact d _ _ jb
   ·cases a
  ·cases q
 ·cases q
abbrev kL:List Value:=[.type "ValueError",.type "Exception",.type "BaseException",.type "object"]
section
variable{X:Cx}
def Mv(EX:XK)(C:Addr):TS:=fun _ _ H=>∀x,H x=none->EX (.ref x) (some C) H
def Mw{x:Str}{C:Addr}{c:Str}{j:Nat}{O g aA pos:Pos}{EX:XK}(hc:X.calm=true)(hg:Gl X x)(a:X.mg x=some (.ref C))(q:PySem.W.excIn X.K C kL "ValueError.__new__"=true)(P:∀(aa:Ψ)(σ:St)(H:Hp)(s:Shared)(x:Addr),Inv X aa σ H s->Xc s.heap x (.ref C) none->H x=none->X.s₀.heap.get? x=none->EX (.ref x) (some C) H->X.xe (.ref x) s)(Q:X.ex=[]:=by rfl)(hd:(x==("__debug__":Str))=false:=by decide)(S:(backTo aA (starEach [Expr.Constant (.str c) j g] X.env)).any (·.1)=false:=by rfl):PS X (.Raise (some (.Call (.Name x O) [.Constant (.str c) j g] [] aA)) none pos) (Mv EX C):=by
 intro aa s σ H D I h;obtain⟨bm,N,nm,y,bs,hdct,sn,sub,ab,col,dd,k0,k1,k2,k3,k5,Y,A,E,G⟩:=Et I.kIn q;refine wpAny_Raise_call_subU (C:=C) (nm:=nm) (q:=y) (N:=N) (bs:=bs) (bm:=bm) (hdct:=hdct) (sn:=sn) (sub:=sub) (ab:=ab) (col:=col) (dd:=dd) (k0:=k0) (k1:=k1) (k2:=k2) (k3:=k3) (k5:=k5) PySem.F.excBase_ValueError PySem.F.excBase_ValueError.hasB PySem.F.excBase_ValueError (E _ PySem.F.excBase_ValueError.hasBase) (I.ok.hd hc) S A ?_;refine aT (ib (v:=.ref C) hg a rfl hd aa s σ H (fun v H1=>v=.ref C/\H1=H) I ⟨rfl,rfl⟩) fun f l ⟨v,H1,T,p,e1,e2⟩=>?_;subst e1 e2;cases p;refine⟨rfl,?_⟩;have M:=(af pe_str ah:PA X [Expr.Constant (.str c) j g] _) aA aa l σ H1 (fun vs H2=>vs=[.str c]/\H2=H1) T ⟨rfl,rfl⟩;refine Calls.evalArgs_plain (aT M fun us d ⟨vs,H2,I2,r,e3,w⟩=>?_);subst e3 w;obtain⟨c1,c2,J⟩:=G d.heap I2.kIn;refine⟨rfl,?_,c1,c2,J,fun h' e a=>?_⟩
 ·rw[<-r.length];show 1<=sizeLine;decide
 obtain⟨t,L,_,_⟩:=a.there;have U:Inv X aa σ H2 {d with heap:=h'}:=I2.kept (t':=d.toks) a.keeps;have i:H2 e=none:=by
  cases z:H2 e with
  |none=>rfl
  |some u=>
   obtain⟨o,b⟩:=Mu (I2.hok e u z);rw[a.new] at b;cases b
 refine P aa σ H2 _ e U ⟨_,_,L,rfl,rfl,rfl,(by show 1<6;decide),.inl ⟨rfl,rfl⟩⟩ i ?_ (h e i);cases z:X.s₀.heap.get? e with
 |none=>rfl
 |some o=>
  obtain⟨o',b⟩:=I2.base.there e o z (by rw[Q];simp);rw[a.new] at b;cases b
end
section
variable{M:Model}{A:Around}{E:Ω}{s:Shared}
def Mx{base:Heap}{env:Env}{outer:List Env}{L x:Addr}{C:Value}{T:Option Addr}{Q:Unit->Shared->Prop}(hfr:A.frames=some (env::outer))(p:s.heap.FunFrames base (env::outer))(r:env.frame=some L)(c:Xc s.heap x C T)(h:∀h' T',s⁻¹<=T'->Xc h' x C (some T')->nj ((env::outer).filterMap (·.frame)) x T s.heap h'->Q () {s with heap:=h'}):wpAny M A (noteFrame (.ref x) env) (fun _ z=>wpAny M A (setFlight (.ref x) none) Q E z) E s:=by
 obtain⟨H,vs,c,rfl,f,hd,hsz,h1⟩:=c;unfold noteFrame;simp only[r];rcases h1 with ⟨rfl,h1⟩|⟨a,I,F,rfl,h1,G,j,l,v⟩
 ·refine Ad (Bl c hd h1 ?_)
  rw[if_neg ξ];exact Br hfr p r c f hd hsz h
 ·refine Ad (Bl c hd h1 ?_)
  rw[if_pos (show(Value.ref a != Value.none)=true from by simp)];refine Ad (Bl j l v ?_);rw[if_neg (show ¬((Value.none==rawInt L)=true) from by simp[rawInt])];refine Ad (wpAny_setField j l (Array.getElem?_eq_some_iff.mp v).1 ?_);have other:∀b,b≠a->(s.heap.update a (Obj.mapFields (·.setIfInBounds 3 Value.none))).get? b=s.heap.get? b:=fun b hb=>Heap.get?_update_other _ _ (Ne.symm hb);have y:∀b o,s.heap.get? b=some o->(∀vs,o.data≠.fields vs)->b≠a:=fun b o hb d q=>by
   rw[q,j] at hb;injection hb with hb;subst hb;exact d F l
  refine Br hfr (p.of_keeps fun b o hb d=>⟨o,(other b (y b o hb d)).trans hb,rfl⟩) r ((other x (Ne.symm G)).trans c) f hd hsz fun h' T' u hx hk=>h h' T' (by rw[Heap.size_update] at u;exact u) hx ?_;obtain⟨k1,k2,k3⟩:=hk;refine⟨fun b o hb D i g=>k1 b o ((other b fun e=>i (by rw[e])).trans hb) D (by simp) g,fun b o hb g=>?_,by rw[Heap.size_update] at k3;exact k3⟩;obtain⟨_,o',w,d⟩:=p.mem g;rw[hb] at w;cases w;exact k2 b o ((other b (y b o hb d)).trans hb) g
def Mz{x:Addr}{C:Value}{T:Addr}{Q:Unit->Shared->Prop}(d:Xc s.heap x C (some T))(h:∀h',Xc h' x C (some T)->nj [] x (some T) s.heap h'->Q () {s with heap:=h'}):wpAny M A (setFlight (.ref x) none) Q E s:=by
 obtain⟨p,vs,d,rfl,g,hd,hsz,h1⟩:=d;rcases h1 with ⟨z,_⟩|⟨a,u,v,z,h1,j,l,i,q⟩
 ·cases z
 cases z;unfold setFlight;refine Ad (Bl d hd h1 ?_);rw[if_pos (show(Value.ref T != Value.none)=true from by simp)];have c:=(Array.getElem?_eq_some_iff.mp q).1;refine wpAny_setField l i c (h _ ?_ ?_)
 ·refine⟨p,vs,?_,rfl,g,hd,hsz,.inr ⟨T,_,_,rfl,h1,j,Heap.get?_update_self _ l (Obj.isFreed_of_fields (Obj.data_mapFields i _)),Obj.data_mapFields i _,?_⟩⟩
  ·rw[Heap.get?_update_other _ _ j];exact d
  ·simp[c]
 ·refine⟨fun b o hb r f _=>?_,fun b o _ z=>absurd z (by simp),by rw[Heap.size_update];exact Ae _⟩
  rw[Heap.get?_update_other _ _ (fun e=>f (by rw[e]))];exact hb
def MA{C S:Addr}{nm q N bs bm hdct sn sub ab col dd k0 k1 k2 k3 k5 bC}{iq q' N' gY eF bN gX di ij c_ dH iC iy ip hJ iE bX}{h:Heap}{g:Array GenState}{d:Drawn}{t:Nat}{os:OsState}{e:Addr}{b:Obj}{Q:Bool->Shared->Prop}(i:h.get? C=some (excClassObj nm q C N bs bm hdct sn sub ab col dd k0 k1 k2 k3 k5 bC))(c:h.get? S=some (excClassObj iq q' S N' gY eF bN gX di ij c_ dH iC iy ip hJ iE bX))(j:h.get? e=some b)(l:b.cls=.ref C)(o:eF.contains (.type "BaseException")=true)(p:(Value.ref C::bm).contains (.ref S)=true)(hq:Q true ⟨h,g,d,t,os⟩):wpAny M A (excMatches (.ref e) (.ref S)) Q E ⟨h,g,d,t,os⟩:=by
 have a:(Value.ref S::eF).contains (.type "BaseException")=true:=by rw[List.contains_cons,o,Bool.or_true]
 have f:=tc_notTuple;unfold excMatches
 repeat(first|(with_reducible refine wpAny_loadPart_at j ?_;rw[l])|with_reducible refine wpAny_loadPart_at c ?_|(with_reducible refine wpAny_isSubtype_exc c ?_;rw[a])|(with_reducible refine wpAny_isSubtype_exc i ?_;rw[p])|wp_step)
 exact hq
end
section
variable{X:Cx}{aa:Ψ}{σ:List (Option V)}{H H':Hp}{s:Shared}{h':Heap}
structure Off(X:Cx)(aa:Ψ)(x:Addr):Prop where
 s0:X.s₀.heap.get? x=none
 lo:x≠X.env.locals
 ce:∀y c,X.env.cells.lookup y=some c->c≠x
 pn:∀p∈X.pn++aa,p.1≠x
def Inv.off(I:Inv X aa σ H s)(b:X.ex=[]){x:Addr}(h:s.heap.get? x=none):Off X aa x:=by
 refine⟨?_,fun e=>?_,fun y c e z=>?_,fun p hp z=>?_⟩
 ·cases q:X.s₀.heap.get? x with
  |none=>rfl
  |some o=>
   obtain⟨o',e⟩:=I.base.there x o q (by rw[b];simp);rw[h] at e;cases e
 ·obtain⟨m,⟨o,_,_,a,_⟩,_⟩:=I.loc
  rw[<-e,h] at a;cases a
 ·obtain⟨v,o,a,_⟩:=I.cell y c e
  rw[z,h] at a;cases a
 ·have:=(I.pin p hp).1
  rw[z,h] at this;cases this
def Inv.stepN{ch:List Addr}(I:Inv X aa σ H s)(j:∀b∈ch,Off X aa b)(keep:∀b o,b≠X.env.locals->b∉X.fs->b∉ch->s.heap.get? b=some o->H b=none->h'.get? b=some o)(slot:∀b o,b≠X.env.locals->b∈X.fs->b∉ch->s.heap.get? b=some o->H b=none->∃A,h'.get? b=some {o with slots:=A})(free:∀b o,b∉ch->s.heap.get? b=some o->H b=none->H' b=none)(there:∀b o,b∉ch->s.heap.get? b=some o->∃o',h'.get? b=some o')(tups:∀b xs,H b=some (.tup xs)->H' b=some (.tup xs))(frzs:∀b o u,H b=some (.frz o u)->H' b=some (.frz o u))(tbls:∀b ps,H b=some (.tbl ps)->∃more,H' b=some (.tbl (ps++more)))(ns:∀m,s.heap.Ns X.env.locals m->h'.Ns X.env.locals m)(C:HOk X.prog X.w H' h'):Inv X aa σ H' {s with heap:=h'}:=by
 have h:∀b o,X.s₀.heap.get? b=some o->b≠X.env.locals:=fun b o e=>Az (Av (Ar e) I.ok.above);have y:∀b o,X.s₀.heap.get? b=some o->b∉ch:=fun b o e hb=>by
  rw[(j b hb).s0] at e;cases e
 have a:∀x c,X.env.cells.lookup x=some c->∀v,s.heap.IsCell c v->h'.IsCell c v:=fun x c e v ⟨o,g,hd⟩=>by
  have f:c∉ch:=fun z=>(j c z).ce x c e rfl
  by_cases hc:c∈X.fs
  ·obtain⟨A,q⟩:=slot c o (I.cne x c e) hc f g (I.freeC x c e)
   exact⟨_,q,hd⟩
  ·exact⟨o,keep c o (I.cne x c e) hc f g (I.freeC x c e),hd⟩
 refine⟨I.ok,I.os,I.bare,⟨fun b o e n hb hx=>?_,fun b o e n hb hx=>?_,fun b o e n hx=>?_,fun b o e hx=>?_,fun b xs e=>tups b xs (I.base.tups b xs e),fun b o xs e=>frzs b o xs (I.base.frzs b o xs e),fun b ps e=>?_⟩,?_,fun x c e=>?_,?_,fun x c e=>?_,fun p hp=>?_,C,I.len⟩
 ·exact keep b o (h b o e) hb (y b o e) (I.base.keep b o e n hb hx) (I.base.free b o e n hx)
 ·obtain⟨A,e1⟩:=I.base.slot b o e n hb hx
  obtain⟨E,e2⟩:=slot b _ (h b o e) hb (y b o e) e1 (I.base.free b o e n hx);exact⟨E,e2⟩
 ·obtain⟨o',e1⟩:=I.base.there b o e hx
  exact free b o' (y b o e) e1 (I.base.free b o e n hx)
 ·obtain⟨o',e1⟩:=I.base.there b o e hx
  exact there b o' (y b o e) e1
 ·obtain⟨m1,e1⟩:=I.base.tbls b ps e
  obtain⟨m2,e2⟩:=tbls b _ e1;exact⟨m1++m2,by rw[e2,Array.append_assoc]⟩
 ·obtain⟨m,hn,F⟩:=I.loc
  refine⟨m,ns m hn,fun i x v e1 e2 e3=>?_⟩;obtain⟨u,r,l⟩:=F i x v e1 e2 e3;refine⟨u,r,?_⟩;rcases l with l|⟨k,c,e,z⟩
  ·exact .inl l
  ·exact .inr ⟨k,c,e,a x c e _ z⟩
 ·obtain⟨v,z⟩:=I.cell x c e
  exact⟨v,a x c e v z⟩
 ·obtain⟨m,⟨o,_,_,g,_⟩,_⟩:=I.loc
  exact free _ o (fun z=>(j _ z).lo rfl) g I.free
 ·obtain⟨v,o,g,hd⟩:=I.cell x c e
  exact free c o (fun z=>(j c z).ce x c e rfl) g (I.freeC x c e)
 ·obtain⟨e,n,ne,D,d⟩:=I.pin p hp
  have f:p.1∉ch:=fun z=>(j p.1 z).pn p hp rfl;exact⟨keep p.1 p.2 ne D f e n,free p.1 p.2 f e n,ne,D,d⟩
def Inv.xkeep{fr:List Addr}{x:Addr}{T:Option Addr}(I:Inv X aa σ H s)(k:nj fr x T s.heap h')(hfr:∀b∈fr,b∈frs X.stack)(ox:Off X aa x)(hx:H x=none)(d:∀a,T=some a->Off X aa a/\H a=none):Inv X aa σ H {s with heap:=h'}:=by
 have c:∀b o,b∉(x::T.toList)->s.heap.get? b=some o->∃c,h'.get? b=some {o with slots:=c}:=fun b o hc e=>by
  by_cases hb:b∈fr
  ·exact k.2.1 b o e hb
  ·exact⟨o.slots,k.1 b o e (fun z=>hc (by simp[z])) (fun z=>hc (by simp[z])) hb⟩
 refine I.stepN (ch:=x::T.toList) (fun b hb=>?_) (fun b o f hb hc e _=>?_) (fun b o _ _ hc e _=>c b o hc e) (fun _ _ _ _ n=>n) (fun b o hc e=>?_) (fun _ _ e=>e) (fun _ _ _ e=>e) (fun b ps e=>⟨#[],by rw[e];simp⟩) (fun m g=>?_) (Hy I.hok k hx (fun a e=>(d a e).2) fun b hb=>I.stkFree b (hfr b hb))
 ·rcases List.mem_cons.mp hb with z|z
  ·rw[z];exact ox
  ·exact(d b (by simpa using z)).1
 ·exact k.1 b o e (fun z=>hc (by simp[z])) (fun z=>hc (by simp[z])) fun z=>(List.mem_cons.mp (I.stkSub b (hfr b z))).elim f hb
 ·obtain⟨z,e⟩:=c b o hc e
  exact⟨_,e⟩
 ·obtain⟨o,es,ep,h,r⟩:=g
  obtain⟨z,e⟩:=c _ o (fun z=>by
   rcases List.mem_cons.mp z with z|z
   ·exact ox.lo z.symm
   ·exact(d _ (by simpa using z)).1.lo rfl) h
  exact⟨_,es,ep,e,r⟩
abbrev fD(x C:Addr):HO:=.ext fun h=>∃o,PySem.W.InstAt h x o C none
def Inv.know{x C:Addr}{T:Option Addr}(I:Inv X aa σ H s)(hx:H x=none)(ox:Off X aa x)(e:Xc s.heap x (.ref C) T):Inv X aa σ (upd H x (fD x C)) s:=by
 obtain⟨a,vs,h,hc,d,j,_⟩:=e;have l:PySem.W.notCls a=true:=by unfold PySem.W.notCls;rw[j]
 have f:match a.dict,(none:Option Obj) with|some dx,some o=>s.heap.get? dx=some o|none,none=>True|_,_=>False:=by rw[d];trivial
 have ne:∀b u,H b=some u->b≠x:=fun b u e z=>by rw[z,hx] at e;cases e
 refine I.stepN (h':=s.heap) (ch:=[x]) (fun b hb=>?_) (fun b o _ _ _ e _=>e) (fun b o _ _ _ e _=>⟨o.slots,e⟩) (fun b o hc _ n=>?_) (fun b o _ e=>⟨o,e⟩) (fun b xs e=>?_) (fun b o u e=>?_) (fun b ps e=>⟨#[],?_⟩) (fun m i=>i) (fun b u e=>?_)
 ·obtain rfl:b=x:=by simpa using hb
  exact ox
 ·rw[ao (fun z=>hc (by simp[z]))];exact n
 ·rw[ao (ne b _ e)];exact e
 ·rw[ao (ne b _ e)];exact e
 ·rw[ao (ne b _ e),e];simp
 ·by_cases hb:b=x
  ·subst hb
   rw[za] at e;cases e;refine⟨⟨a,h,hc,l,f⟩,⟨a,h⟩,fun h1 h2 ⟨o,e1,e2,e3,g⟩ q=>⟨o,q o e1,e2,e3,?_⟩⟩;cases z:o.dict with
   |none=>trivial
   |some dx=>rw[z] at g;exact g.elim
  ·rw[ao hb] at e
   refine(I.hok b u e).stay (fun c v _ q=>q) (fun c q=>?_) fun c xs q=>?_
   ·rw[ao (ne c _ q)];exact q
   ·rw[ao (ne c _ q)];exact q
end
section
variable{X:Cx}{aa bj:Ψ}{σ:List (Option V)}{H H':Hp}{s:Shared}{h':Heap}{EB:XK}
def MB(X:Cx)(aa:Ψ)(EB:XK):Ω:=fun e s=>∃(x C:Addr)(T:Option Addr)(σ:St)(H:Hp),e=.ref x/\Inv X aa σ H s/\Xc s.heap x (.ref C) T/\H x=none/\Off X aa x/\(∀a,T=some a->Off X aa a/\H a=none)/\EB (.ref x) (some C) H
abbrev XB(X:Cx)(aa:Ψ)(EB:XK):Cx:={X with pn:=X.pn++aa,xe:=MB X aa EB}
abbrev XH(X:Cx)(aa:Ψ)(x:Addr):Cx:={X with A:=X.A.mark (some (.ref x)),calm:=false,pn:=X.pn++aa,xe:=fun _ _=>False}
def Inv.toB(I:Inv X aa σ H s):Inv (XB X aa EB) [] σ H s:=
 ⟨⟨I.ok.mod,I.ok.kind,I.ok.glob,I.ok.blt,I.ok.above,I.ok.inj,I.ok.has,I.ok.cab,I.ok.hd,I.ok.frames,I.ok.stk,I.ok.exf,I.ok.bs,I.ok.bsz,I.ok.noex,I.ok.exfs,I.ok.funs,I.ok.frf⟩,I.os,I.bare,I.base,I.loc,I.cell,I.free,I.freeC,
  fun p hp=>I.pin p (by simpa using hp),I.hok,I.len⟩
def Inv.ofB(I:Inv (XB X aa EB) bj σ H s):Inv X aa σ H s:=
 ⟨⟨I.ok.mod,I.ok.kind,I.ok.glob,I.ok.blt,I.ok.above,I.ok.inj,I.ok.has,I.ok.cab,I.ok.hd,I.ok.frames,I.ok.stk,I.ok.exf,I.ok.bs,I.ok.bsz,I.ok.noex,I.ok.exfs,I.ok.funs,I.ok.frf⟩,I.os,I.bare,I.base,I.loc,I.cell,I.free,I.freeC,
  fun p hp=>I.pin p (A6 _ hp),I.hok,I.len⟩
def Inv.toH{x:Addr}(I:Inv X aa σ H s):Inv (XH X aa x) [] σ H s:=
 ⟨⟨I.ok.mod,I.ok.kind,I.ok.glob,I.ok.blt,I.ok.above,I.ok.inj,I.ok.has,I.ok.cab,(fun z=>nomatch z),I.ok.frames,I.ok.stk,I.ok.exf,I.ok.bs,I.ok.bsz,I.ok.noex,I.ok.exfs,I.ok.funs,I.ok.frf⟩,I.os,I.bare,I.base,I.loc,I.cell,I.free,I.freeC,
  fun p hp=>I.pin p (by simpa using hp),I.hok,I.len⟩
def Inv.ofH{x:Addr}(I:Inv (XH X aa x) bj σ H s)(hd:X.calm=true->X.A.handled=none):Inv X aa σ H s:=
 ⟨⟨I.ok.mod,I.ok.kind,I.ok.glob,I.ok.blt,I.ok.above,I.ok.inj,I.ok.has,I.ok.cab,hd,I.ok.frames,I.ok.stk,I.ok.exf,I.ok.bs,I.ok.bsz,I.ok.noex,I.ok.exfs,I.ok.funs,I.ok.frf⟩,I.os,I.bare,I.base,I.loc,I.cell,I.free,I.freeC,
  fun p hp=>I.pin p (A6 _ hp),I.hok,I.len⟩
def SP.ofB{D:Ends}{f:Flow}{s':Shared}(h:SP (XB X aa EB) [] D f s'):SP X aa D f s':=by
 cases f with
 |next=>obtain⟨a,H',I,q⟩:=h;exact⟨a,H',I.ofB,q⟩
 |brk=>obtain⟨a,H',I,q⟩:=h;exact⟨a,H',I.ofB,q⟩
 |cont=>obtain⟨a,H',I,q⟩:=h;exact⟨a,H',I.ofB,q⟩
 |ret u=>obtain⟨v,a,H',I,r,q⟩:=h;exact⟨v,a,H',I.ofB,r,q⟩
def MC(g:X.ex=[]):dt (jQ X.prog X.w) (XB X aa EB) EB:=by
 rintro bj σ H1 h e i I ⟨x,C,T,H',rfl,os,c,un,d,j,l,f,hx,o⟩;have I2:Inv (XB X aa EB) bj σ H' i:=I.call' (ch:=[]) os un d c (fun b z=>absurd z (by simp));have J:Inv X aa σ H1 h:=I.ofB;exact⟨x,C,T,σ,H',rfl,I2.ofB,hx,j,J.off g l,fun a e=>⟨J.off g (f a e).2,(f a e).1⟩,o⟩
def Inv.gone{i:Nat}{n:Str}{m:Str->Option Value}{u:Option Value}(I:Inv X aa σ H s)(E:X.N.Nodup)(hi:X.N[i]?=some n)(F:∀(i:Nat)(x:Str)(v:V),X.N[i]?=some x->σ[i]?=some (some v)->pq X.env.scope x->∃u,RelV v u/\Look X.env s.heap m x u)(hn:h'.Ns X.env.locals fun y=>if y=n then u else m y)(a:Heap.SameBut X.env.locals s.heap h'):Inv X aa (σ.set i none) H {s with heap:=h'}:=by
 have f:i<σ.length:=by rw[I.len];exact(List.getElem?_eq_some_iff.mp hi).1
 refine⟨I.ok,I.os,I.bare,⟨fun b o e n hb hx=>?_,fun b o e n hb hx=>?_,I.base.free,fun b o e hx=>?_,I.base.tups,I.base.frzs,I.base.tbls⟩,⟨_,hn,fun j y l e1 e2 e3=>?_⟩,fun y c e=>?_,I.free,I.freeC,fun p hp=>?_,fun b r e=>?_,by simpa using I.len⟩
 ·exact(a.2 b (Az (Av (Ar e) I.ok.above))).trans (I.base.keep b o e n hb hx)
 ·obtain⟨w,e1⟩:=I.base.slot b o e n hb hx
  exact⟨w,(a.2 b (Az (Av (Ar e) I.ok.above))).trans e1⟩
 ·obtain⟨o',e1⟩:=I.base.there b o e hx
  exact⟨o',(a.2 b (Az (Av (Ar e) I.ok.above))).trans e1⟩
 ·by_cases g:j=i
  ·subst g
   rw[List.getElem?_set_self f] at e2;cases e2
  ·rw[List.getElem?_set_ne (Ne.symm g)] at e2
   obtain⟨A,C,q⟩:=F j y l e1 e2 e3;refine⟨A,C,?_⟩;rcases q with ⟨k,e⟩|⟨k,c,e,z⟩
   ·refine .inl ⟨k,?_⟩
    have:y≠n:=fun e=>g (DR E e1 (e▸hi));simp[this,e]
   ·exact .inr ⟨k,c,e,z.sameBut a (I.cne y c e)⟩
 ·obtain⟨h,z⟩:=I.cell y c e
  exact⟨h,z.sameBut a (I.cne y c e)⟩
 ·obtain⟨e,n,ne,D,d⟩:=I.pin p hp
  exact⟨(a.2 p.1 ne).trans e,n,ne,D,d⟩
 ·refine(I.hok b r e).stay (fun c h hc q=>(a.2 c ?_).trans q) (fun _ q=>q) fun _ _ q=>q
  rintro rfl;rcases hc with z|z
  ·rw[<-z,I.free] at e;cases e
  ·rw[I.free] at z;cases z
def i9(K:Af)(C S:Addr):Prop:=∀h:Heap,K.In h->∃nm q N bs bm hdct sn sub ab col dd k0 k1 k2 k3 k5 b c d N' e a f g i j l o p r s u v w,
 h.get? C=some (excClassObj nm q C N bs bm hdct sn sub ab col dd k0 k1 k2 k3 k5 b)/\h.get? S=some (excClassObj c d S N' e a f g i j l o p r s u v w)/\
 a.contains (.type "BaseException")=true/\(Value.ref C::bm).contains (.ref S)=true
def qL(K:Af)(n ie:Nat)(S:Addr)(d:TS)(D:Ends):XK:=fun e c H'=>∃x C,e=.ref x/\c=some C/\i9 K C S/\∀a:St,a.length=n->
 d {nx:=fun b H2=>D.nx (b.set ie none) H2,rt:=fun _ _=>False} (a.set ie (some (.ref x))) (upd H' x (fD x C))
def Eu(K:Af)(n ie:Nat)(S:Addr)(t:XK->TS)(a:TS):TS:=fun D σ H=>t (qL K n ie S a D) D σ H
def MD{n:Str}{ie:Nat}{p:Str}{S:Addr}{Q U:List Stmt}{W:Stmt}{t:XK->TS}{Y:TS}{np c pos:Pos}(fH:X.ex=[])(E:X.N.Nodup)(j:X.N[ie]?=some n)(g:X.env.scope.names.lookup n=some .local)(r:X.stack=X.env::X.outer)(hfr:X.env.frame=some X.env.locals)(vy:Gl X p)(xq:X.mg p=some (.ref S))(hb:∀aa EB,PSs (XB X aa EB) Q (t EB))(hH:∀aa x,PSs (XH X aa x) (W::U) Y)(hd:(p==("__debug__":Str))=false:=by decide):PS X (.Try Q [.ExceptHandler (some (.Name p np)) (some n) (W::U) c] [] [] pos) (Eu X.K X.N.length ie S t Y):=by
 intro aa s σ H D I h;refine wpAny_Try_except (wpAny_mono (hb aa _ [] s σ H D I.toB h) (fun f d q=>?_) (fun e d q=>?_))
 ·have i:SP X aa D f d:=q.ofB
  cases f with
  |next=>exact wpAny_execs_nil i
  |brk=>exact i
  |cont=>exact i
  |ret u=>exact i
 obtain⟨x,C,T,o,H1,rfl,I1,hx,y,ox,hT,x',C',e1,e2,sub,k⟩:=q;cases e1;cases e2;have qZ:=r;refine Mx (base:=X.base) (outer:=X.outer) (L:=X.env.locals) (by rw[<-r];exact I1.ok.frames) (by rw[<-r];exact I1.stack) hfr hx fun h2 T2 F G vZ=>?_;have I2:Inv X aa o H1 {d with heap:=h2}:=I1.xkeep vZ (fun b z=>by rw[r];exact z) ox y hT;have vT:d.heap.get? T2=none:=Heap.get?_none_of_le F;have wY:Off X aa T2:=I1.off fH vT;have tN:H1 T2=none:=I1.hok.fresh F;refine wpAny_handleBy_cons (codeAny_handlers_test ?_) (by intro q;cases q);refine w_ (X:=XH X aa x) (I2.toH (x:=x)) vy xq ?_ hd;obtain⟨nm,q,N,bs,bm,hdct,sn,di,ab,col,dd,k0,k1,k2,k3,k5,bC,iq,i,N',gY,eF,bN,gX,p7,ij,c_,dH,iC,iy,ip,hJ,iE,bX,hC,hS,js,dX⟩:=sub h2 I2.kIn;obtain⟨oe,vs,eD,A,_⟩:=id G;refine MA hC hS eD A js dX ?_;show codeAny _ _ _ _ _;refine codeAny_handlers_suite_as ?_;refine Mz G fun w vm j3=>?_;have I4:Inv X aa o H1 {d with heap:=w}:=I2.xkeep (h':=w) j3 (fun b z=>absurd z (by simp)) ox y (fun a e=>by cases e;exact⟨wY,tN⟩);have I5:Inv X aa o (upd H1 x (fD x C)) {d with heap:=w}:=I4.know y ox vm;refine mC (X:=XH X aa x) (I5.toH (x:=x)) E j (.inl g) (v:=.ref x) rfl (fun s6 I6=>?_) (.inr g);refine wpAny_mono (hH aa x [] s6 _ _ _ I6 (k o I1.len)) (fun f J l=>?_) fun _ _ z=>z.elim;cases f with
 |brk=>obtain⟨_,_,_,z⟩:=l;exact z.elim
 |cont=>obtain⟨_,_,_,z⟩:=l;exact z.elim
 |ret u=>obtain⟨_,_,_,_,_,z⟩:=l;exact z.elim
 |next=>
  obtain⟨M,Z,I7,d7⟩:=l;have I7':Inv X aa M Z J:=I7.ofH I.ok.hd;show wpAny _ _ (do bindName X.env n .none;unbindBehindTheSuite X.env n c) _ _ J;refine Ad (wpAny_bindName (mC I7' E j (.inl g) (v:=.non) rfl (fun s8 I8=>?_) (.inr g)));obtain⟨m,hn,O⟩:=id I8.loc;have lD:ie<M.length:=by rw[I7'.len];exact(List.getElem?_eq_some_iff.mp j).1
  obtain⟨u,_,lk⟩:=O ie n .non j (by rw[List.getElem?_set_self lD]) (.inl g);have P:X.env.kindOf n=some .local:=g;have hm:m n=some u:=by
   rcases lk with ⟨_,e⟩|⟨z,_⟩
   ·exact e
   ·rw[P] at z;rcases z with z|z<;>cases z
  unfold unbindBehindTheSuite;refine wpAny_onRaise (wpAny_unbindName_local P hn hm (by rw[I.ok.kind];rfl) fun h9 u9 q_ ym=>?_);have I9:=I8.gone E j O q_ ym;rw[List.set_set] at I9;exact⟨_,Z,I9,d7⟩
end
def ME{K:Af}{C:Addr}{name:Str}{a g:Value}(hc:(PySem.W.clsIn K C).isSome=true)(b:PySem.W.findIn K (.ref C) name=some (some a))(hg:PySem.W.specialIn K a "__get__"=some (some g))(c:PySem.W.takesIn K a=some true):PySem.W.findObj K C none name=some (.bind g a):=by
 obtain⟨d,hc⟩:=Option.isSome_iff_exists.mp hc;unfold PySem.W.findObj;rw[hc,Option.bind_some,b,Option.bind_some];simp[hg,c]
structure ek(K:Af)(D:Addr):Prop where
 ga:PySem.W.findIn K (.ref D) "__getattribute__"=some (some (.builtin "BaseException.__getattribute__"))
 gt:PySem.W.findIn K (.ref D) "__getattr__"=some none
 cls:(PySem.W.clsIn K D).isSome=true
 find:PySem.W.findIn K (.ref D) "__class__"=some (some (.builtin "object.__class__"))
 spec:PySem.W.specialIn K (.builtin "object.__class__") "__get__"=some (some (.builtin "getset_descriptor.__get__"))
 tk:PySem.W.takesIn K (.builtin "object.__class__")=some true
 mro:PySem.W.mroIn K D (.type "object")=some true
 mroB:PySem.W.mroIn K D (.type "BaseException")=some true
section
variable{prog:Program}{w:World}{A:Around}{E:Ω}{s:Shared}{K:Af}{x D:Addr}{ox:Obj}
def MF{M:Model}{b:Value}{Q:Unit->Shared->Prop}(c:ek K D)(X:K.In s.heap)(I:PySem.W.InstAt s.heap x ox D none)(hq:Q () s):wpAny M A (checkBuiltinCall "BaseException.__getattribute__" ⟨[.ref x,b],[]⟩) Q E s:=by
 obtain⟨e,g,d,t,os⟩:=s;have hk:builtinKind "BaseException.__getattribute__"=some .slot:=δ
 have a:splitId "BaseException.__getattribute__"=some ("BaseException","__getattribute__"):=δ
 have f:=F.args_bexc_ga (.ref x) b;have L0:=I.type (M:=M);have L1:=PySem.W.looks_mroIn (M:=M) X c.mroB;simp only[checkBuiltinCall,hk,a];refine Ad ?_;unfold isInstance;refine Ad (L0.at (L1.at ?_))
 repeat(first|assumption|wp_step)
def MG{tk:Tok}{Q:Fin->Shared->Prop}(c:ek K D)(X:K.In s.heap)(I:PySem.W.InstAt s.heap x ox D none)(hq:Q (.done (.ret (.ref D))) s):wpAny (model prog w) A (Builtin.«object.__getattribute__» ⟨[.ref x,.str "__class__" tk],[]⟩) Q E s:=by
 obtain⟨a,g,d,t,os⟩:=s;have b:=ME c.cls c.find c.spec c.tk;have L0:=I.type (M:=model prog w);have L1:=PySem.W.looks_find (M:=model prog w) X I b;unfold Builtin.«object.__getattribute__»
 repeat(first|with_reducible refine Ad (L0.at ?_)|with_reducible refine Ad (L1.at ?_)|wp_step)
 exact PySem.W.class_get (s:=⟨a,g,d,t,os⟩) X I c.mro (Ao hq)
def MH{Q:Option Value->Shared->Prop}(c:ek K D)(X:K.In s.heap)(I:PySem.W.InstAt s.heap x ox D none)(h:Q (some (.ref D)) {s with toks:=s.toks+1}):wpAny (model prog w) A (getAttr? (.ref x) "__class__") Q E s:=by
 obtain⟨a,g,d,t,os⟩:=s;have L0:=I.type (M:=model prog w);have L1:=PySem.W.looks_findIn (M:=model prog w) X c.ga;have L2:=PySem.W.looks_findIn (M:=model prog w) X c.gt;have FA:=F.excAttr_ValueError;have b:=FA.ga.bind (.ref x);have e:(Value.builtin "BaseException.__getattribute__" == Value.builtin "object.__getattribute__")=false:=δ
 unfold getAttr? getAttrBy? getAttrBy;refine Ad (wpAny_mkText (Ad (wpAny_attempt (wpAny_holding (Ad (L0.at (Ad (L1.at ?_))))))));dsimp only;rw[if_neg (by rw[e,Bool.and_false];decide)];unfold getAttrByItsOwn hookBefore;rw[if_pos (show onTheHeap (.ref D)=true from rfl)];refine Ad (L2.at ?_);refine Ad (wpAny_attempt (wpAny_holding ?_));unfold callGetattribute boundAndCalled;rw[Bool.false_and,if_neg Aw,b];refine Ad (Ao ?_);refine wpAny_call (codeAny_call_builtin FA.ga.plain F.entry_bexc_ga (MF (s:=⟨a,g,d,t+1,os⟩) c X I (MG (s:=⟨a,g,d,t+1,os⟩) c X I ?_)));exact PySem.W.handed_on rfl (Ao h)
end
def MI{K:Af}{x D:Addr}{ox:Obj}(c:ek K D):PySem.W.KitX K (.ref x) (.ref D) (fun h=>PySem.W.InstAt h x ox D none) where
 ty:=fun _ _ _ I=>I.type
 it:=fun _ _ X _=>by
  obtain⟨d,a⟩:=Option.isSome_iff_exists.mp c.cls;unfold PySem.W.clsIn at a;split at a
  ·rename_i c' d' cd' fJ ho
   intro g i j s' k q;unfold isType loadHead;exact Ad (wpAny_loadPart (k _ _ (X _ _ ho)) (Ao q))
  ·cases a
 ne:=fun h tp dd ad n f X b=>by
  obtain⟨d,a⟩:=Option.isSome_iff_exists.mp c.cls;refine Bool.eq_false_iff.mpr fun q=>?_;have e:D=tp:=Value.ref.inj (beq_iff_eq.mp q);subst e;unfold PySem.W.clsIn at a;split at a
  ·rename_i c' d' cd' fJ ho
   have z:=(X _ _ ho).symm.trans b;cases z
  ·cases a
 ca:=fun X I k=>MH c X I k
section
variable{X:Cx}
def kO{c:V}{a:Value}{b:Bool}{C:Addr}(g:∀u,RelV c u->u=a)(i:ek X.K C)(e:Bk X.K (.ref C) a=some b):fj X (.builtin "isinstance") (fun xs H Q=>∃x,xs=[.ref x,c]/\H x=some (fD x C)/\Q (.bl b) H):=by
 intro aa s σ H xs us Q I r h;obtain⟨x,rfl,hx,q⟩:=h;obtain⟨u,j,rfl,d,f⟩:=vals2 r;obtain rfl:=g _ f;cases(show u=Value.ref x from d);obtain⟨⟨o,p⟩,_⟩:=(show zW X.prog X.w H s.heap x (fD x C) from I.hok x _ hx);exact PySem.W.kia_one (MI i) I.kIn p e (fun z=>nomatch z) fun tk=>⟨.bl b,H,I.tok _,rfl,q⟩
end
structure zcc(k:Nat)(A:Around):Prop where
 dp:A.depth+3*k+5<recursionLimit
 un:A.units+16*k+200<cLine
def Room.mark{k:Nat}{A:Around}(r:Room k A)(v:Option Value):zcc k (A.mark v):=⟨r.dp,r.un⟩
def zcc.deeper{k:Nat}{A:Around}(r:zcc (k+1) A)(env:Env):zcc k (A.deeper env):=
 ⟨by have:=r.dp;show A.depth+1+3*k+5<_;(first|lia|omega),by have:=r.un;show A.units+3+16*k+200<_;(first|lia|omega)⟩
def zcc.depth{k:Nat}{A:Around}(r:zcc k A):A.depth<recursionLimit:=by have:=r.dp;(first|lia|omega)
def zcc.units{k:Nat}{A:Around}(r:zcc k A):A.units+64<cLine:=by have:=r.un;(first|lia|omega)
structure qU(P:Program)(w:World)(K:Af)(mg:Str->Option Value)(base:Heap)(k:Nat)(f:Addr)(fd:FuncData)(ps:List Str)(sp:Sp):Prop where
 len:∀vs H Q E,sp vs H Q E->vs.length=ps.length
 run:∀(A:Around)(outer:List Env)(s:Shared)(H:Hp)(args:Args)(us:List Value)(vs:List V)(Q:VK)(E:XK),zcc k A->Env0 P w K mg base A outer s H->BindsTo s fd args (ps.zip us)->Vals vs us->sp vs H Q E->
  codeAny (model P w) A (.call (.ref f) args) (CR aK outer P w H s Q E) s
abbrev q9(P:Program)(w:World)(K:Af)(mg:Str->Option Value)(base:Heap)(N:List Str)(ae:Str)(scope:Scope)(f:Addr)(cd:Value)(A:Around)(outer:List Env)(s:Shared)(H:Hp)(E:XK):Cx:=
 {bG aK P w K mg base N ae scope f cd A outer s H E with calm:=false,xe:=fun _ _=>False}
def MJ{P:Program}{w:World}{K:Af}{mg:Str->Option Value}{base:Heap}{N ps:List Str}{b:Str}{scope:Scope}{f:Addr}{c:Value}{A:Around}{outer:List Env}{s d:Shared}{H:Hp}{E:XK}{us:List Value}{vs:List V}(S:zm N ps scope)(a:Env0 P w K mg base A outer s H)(e:vs.length=ps.length)(r:Vals vs us)(x:InCallC s s⁻¹ (bindL (envOfC b scope s⁻¹ f c).kindOf (ps.zip us) fun _=>none) (Bp (s⁻¹+1) scope.names []) (bindC (envOfC b scope s⁻¹ f c).kindOf (ps.zip us) fun _=>none) d):Inv (q9 P w K mg base N b scope f c A outer s H E) [] (start N vs) H d:=by
 have I:Inv (bG aK P w K mg base N b scope f c {A with handled:=none} outer s H E) [] (start N vs) H d:=G9 (A:={A with handled:=none}) S rfl ⟨a.frames,a.mod,a.bs,a.bsz,a.funs,a.frf,a.hok,a.bare⟩ e r x;exact⟨⟨I.ok.mod,I.ok.kind,I.ok.glob,I.ok.blt,I.ok.above,I.ok.inj,I.ok.has,I.ok.cab,(fun z=>nomatch z),Around.frames_deeper a.frames,I.ok.stk,I.ok.exf,I.ok.bs,I.ok.bsz,I.ok.noex,I.ok.exfs,I.ok.funs,I.ok.frf⟩,I.os,I.bare,I.base,I.loc,I.cell,I.free,I.freeC,I.pin,I.hok,I.len⟩
def MK{P:Program}{w:World}{K:Af}{mg:Str->Option Value}{base:Heap}{k:Nat}{f:Addr}{name a:Str}{p:Arguments}{i:List Stmt}{scope:Scope}{z kV C D c ct oc:Value}{F od:Option Addr}{O:Array (Option Value)}{N ps:List Str}{sp:Sp}(lk:K.lookup f=some ⟨oc,od,.func (PySem.W.fnOf name a p i scope z kV C D F c ct),O⟩)(T:PySem.W.codeIn K c a=true)(S:zm N ps scope)(len:∀vs H Q E,sp vs H Q E->vs.length=ps.length)(aU:∀(A:Around)(outer:List Env)(s:Shared)(H:Hp)(vs:List V)(Q:VK)(E:XK),zcc k (A.deeper (envOfC a scope s⁻¹ f c))->sp vs H Q E->
   ∃t,PSs (q9 P w K mg base N a scope f c A outer s H E) i t/\t {nx:=fun _ H'=>Q .non H',rt:=Q} (start N vs) H):
  qU P w K mg base (k+1) f (PySem.W.fnOf name a p i scope z kV C D F c ct) ps sp:=by
 refine⟨len,fun A outer s H args us vs Q E hr g hb r G=>?_⟩;have Z:=len _ _ _ _ G;have M:K.In s.heap:=g.mod.kin.keeps fun b o e=>(g.bs b o e).1;have l:s.heap.NoLimit:=g.mod.nolimit.keeps fun b o e=>(g.bs b o e).1;have d_:∀y∈ps.zip us,scope.names.lookup y.1=some .local\/(scope.names.lookup y.1=some .cell/\((Bp (s⁻¹+1) scope.names []).lookup y.1).isSome=true):=fun⟨n,v⟩ hy=>by
  rcases S.par n (List.of_mem_zip hy).1 with q|q
  ·exact .inl q
  ·exact .inr ⟨q,PySem.W.cellsFrom_some _ _ _ (.inl q)⟩
 refine codeAny_call_function hr.depth (M _ _ lk) rfl S.co S.gen rfl (PySem.W.codeRec_of M T) (hb _ _ _ _ ?_);refine wpAny_newFunctionEnv_cells S.kind d_ fun env U L x=>?_;subst U;refine⟨l.keeps x.toInCall.keep,codeAny_func ?_⟩;obtain⟨t,Y,hq⟩:=aU A outer s H vs Q E (hr.deeper _) G;have I:Inv (q9 P w K mg base N a scope f c A outer s H E) [] (start N vs) H L:=MJ S g Z r x;refine wpAny_mono (Y [] L (start N vs) H _ I hq) (fun X s' d=>?_) fun e s' d=>d.elim;have fin:∀{h:St}{H':Hp}{v:V}{u:Value},Inv (q9 P w K mg base N a scope f c A outer s H E) [] h H' s'->RelV v u->Q v H'->CE outer P w H s Q u s':=
  fun{h H' v u} J j q=>⟨v,H',J.os,J.bare,J.base,J.hok,j,q⟩
 cases X with
 |ret u=>
  obtain⟨v,h,H',J,j,q⟩:=d;exact fin J j q
 |next=>
  obtain⟨h,H',J,q⟩:=d;exact fin (v:=V.non) (u:=Value.none) J rfl q
 |brk=>
  obtain⟨_,_,_,q⟩:=d;exact False.elim q
 |cont=>
  obtain⟨_,_,_,q⟩:=d;exact False.elim q
def Fun.okN{P:Program}{w:World}{K:Af}{mg:Str->Option Value}{base:Heap}{x b:Str}{st:Stmt}{f:Addr}{fd:FuncData}{N ps:List Str}{k:Nat}{sp:Sp}(F:Fun K x b st f fd)(S:zm N ps (ze st))(len:∀vs H Q E,sp vs H Q E->vs.length=ps.length)(e:∀(a:Value)(A:Around)(outer:List Env)(s:Shared)(H:Hp)(vs:List V)(Q:VK)(E:XK),zcc k (A.deeper (envOfC b (ze st) s⁻¹ f a))->sp vs H Q E->
   ∃t,PSs (q9 P w K mg base N b (ze st) f a A outer s H E) (zal st) t/\t {nx:=fun _ H'=>Q .non H',rt:=Q} (start N vs) H):qU P w K mg base (k+1) f fd ps sp:=by
 obtain⟨g,h,kV,i,j,l,a,ct,o,rfl,lk,d⟩:=F.ex;exact MK lk d S len fun A outer s H vs Q E hr c=>e a A outer s H vs Q E hr c
section
variable{X:Cx}{k:Nat}{f:Addr}{fd:FuncData}{ps:List Str}{sp:Sp}{c9:List V}{ds:List Value}{E:XK}{x:Str}{p pos:Pos}{e:Expr}{es:List Expr}{t:TA}
def ML(F:qU X.prog X.w X.K X.mg X.base k f fd ps sp)(hr:zcc k X.A)(hg:Gl X x)(g:X.mg x=some (.ref f))(hk:PySem.W.keepIn X.K (.ref f)=true)(hb:Binds X.K fd ps ds)(hd:Vals c9 ds)(i:PA X (e::es) t)(j:(x==("__debug__":Str))=false:=by decide)(l:starEach (e::es) X.env=(false,eval e X.env)::starEach es X.env:=by rfl)(a:(backTo pos (starEach es X.env)).any (·.1)=false:=by rfl):PE X (.Call (.Name x p) (e::es) [] pos) (fY sp c9 E t):=by
 intro aa s σ H Q I h;refine wpAny_Call_Name_kw (w_ I hg g ?_ j);refine PySem.W.callWith_K (h₀:=X.base) I.ok.mod.kin hk (aT (i pos aa s σ H _ I h) fun us b ⟨vs,H1,I1,r,q⟩=>⟨I1.kIn,?_⟩) l a;have c:Vals (vs++c9) (us++ds):=r.append hd;have d:(us++ds).length=ps.length:=by rw[<-c.length];exact F.len _ _ _ _ q
 refine wpAny_call (codeAny_mono (F.run X.A X.stack b H1 ⟨us,[]⟩ (us++ds) (vs++c9) Q E hr I1.env0 (hb b us I1.kIn d) c q) fun r s' hq=>?_);cases r with
 |error e=>exact hq.elim
 |ok fl=>
  cases fl with
  |ret u=>exact I1.after hq
  |next=>exact False.elim hq
  |brk=>exact False.elim hq
  |cont=>exact False.elim hq
end
end L2
end
section
namespace Zp
open PySem PySem.Spec PyProof.Rows
section
variable{prog:Program}{w:World}{A:Around}{E:Ω}{s:Shared}
def MM{it t:Addr}{i:Nat}{items:Array Value}{x:Value}{Q:Ω}(b:s.heap.IsTupleIter it t i)(e:s.heap.IsTuple t items)(hx:items[i]?=some x)(f:∀h',h'.IsTupleIter it t (i+1)->Heap.SameBut it s.heap h'->Q x {s with heap:=h'}):wpAny (model prog w) A (Builtin.SmallTypes.nextOf (.ref it)) Q E s:=by
 obtain⟨o,a,hc,hd⟩:=id b;obtain⟨g,c,_,h,d⟩:=e;unfold Builtin.SmallTypes.nextOf;refine Ad (wpAny_callSpecial?_slot (name:=Str.ofString "__next__") b.typeIs F.slot_tuple_iterator_next (wpAny_call_entry F.slot_tuple_iterator_next b.typeIs F.entry_tuple_iterator_next ?_ (F.args_tuple_iterator_next_1 _)));show wpAny _ _ (field (.ref it) 0 >>= _) _ _ s;refine Ad (Bl a hd (x:=.ref t) rfl ?_);show wpAny _ _ (if(Value.ref t==Value.none)=true then _ else _) _ _ s;rw[if_neg (show ¬((Value.ref t==Value.none)=true) from Aw)];show wpAny _ _ (field (.ref it) 1 >>= _) _ _ s;refine Ad (Bl a hd (x:=.int i 0) rfl ?_);show wpAny _ _ (seqItems? (.ref t) >>= _) _ _ s;refine Ad (wpAny_seqItems c d ?_);simp only[Int.toNat_natCast,hx];refine Ad (wpAny_setField a hd (by simp) (Ao ⟨x,rfl,Ao (f _ ?_ (Heap.SameBut.update ..))⟩));exact⟨_,Heap.get?_update_self _ a (Obj.isFreed_of_fields (Obj.data_mapFields hd _)),(Obj.cls_mapFields ..).trans hc,by
  rw[Obj.data_mapFields hd];simp[rawInt]⟩
def MO{it t:Addr}{i:Nat}{items:Array Value}{Q:Ω}(d:A.handled=none)(c:s.heap.IsTupleIter it t i)(h:s.heap.IsTuple t items)(hx:items[i]?=none)(j:∀h' e,Heap.ExtBut it s.heap h'->(∃o,h'.get? e=some o/\o.cls=.type "StopIteration")->E (.ref e) {s with heap:=h'}):wpAny (model prog w) A (Builtin.SmallTypes.nextOf (.ref it)) Q E s:=by
 obtain⟨o,b,hc,hd⟩:=id c;obtain⟨l,f,_,p,g⟩:=h;unfold Builtin.SmallTypes.nextOf;refine Ad (wpAny_callSpecial?_slot (name:=Str.ofString "__next__") c.typeIs F.slot_tuple_iterator_next (wpAny_call_entry F.slot_tuple_iterator_next c.typeIs F.entry_tuple_iterator_next ?_ (F.args_tuple_iterator_next_1 _)));show wpAny _ _ (field (.ref it) 0 >>= _) _ _ s;refine Ad (Bl b hd (x:=.ref t) rfl ?_);show wpAny _ _ (if(Value.ref t==Value.none)=true then _ else _) _ _ s;rw[if_neg (show ¬((Value.ref t==Value.none)=true) from Aw)];show wpAny _ _ (field (.ref it) 1 >>= _) _ _ s;refine Ad (Bl b hd (x:=.int i 0) rfl ?_);show wpAny _ _ (seqItems? (.ref t) >>= _) _ _ s;refine Ad (wpAny_seqItems f g ?_);simp only[Int.toNat_natCast,hx];refine Ad (wpAny_rule (Ad (wpAny_setField b hd (by simp) ?_)));show wpAny _ _ (newExc (.type "StopIteration") [] >>= _) _ _ _;refine Ad ?_;simp only[newExc,newTuple];refine Ad (wpAny_newObj_type ?_ (by size_fits));refine Ad (m:=firstArgMember _ _) (wpAny_of_eq (a:=Value.none) (by first|rfl|(simp only[firstArgMember];rfl)) ?_);refine wpAny_newObj_type ?_ (by size_fits);simp only[raiseNew];refine Ad (wpAny_handled ?_)
 first|rw[show A.in1.handled=none from d]|rw[d]
 refine Ad (Ao (wpAny_throw ?_));exact j _ _ (((Heap.SameBut.update ..).extBut.push _).push _) ⟨_,AK _ rfl,rfl⟩
end
def MP{h h':Heap}{a:Addr}{items:Array Value}(x:h.IsTuple a items)(e:∀o,h.get? a=some o->h'.get? a=some o):h'.IsTuple a items:=let ⟨o,ho,r⟩:=x;⟨o,e o ho,r⟩
def Hz{prog:Program}{w:World}{A:Around}(g:A.handled=none)(it t:Addr)(a:t≠it)(items:Array Value):Draws prog w A it [it,t] items.size (fun i v=>items[i]?=some v) (fun i h=>h.IsTupleIter it t i/\h.IsTuple t items) where
 live:=fun _ _ st=>let ⟨o,ho,_⟩:=st.1;⟨o,ho⟩
 frame:=fun _ _ _ st hk=>⟨st.1.at fun o e=>hk it (by simp) o e,MP st.2 fun o e=>hk t (by simp) o e⟩
 item:=fun i s Q E hi st c=>by
  refine MM st.1 st.2 (x:=items[i]) (by simp[hi]) fun h' d b=>?_;exact c _ h' s.toks (by simp[hi]) ⟨d,st.2.extBut b.extBut a⟩ b
 done:=fun s Q E st f=>MO g st.1 st.2 (by simp) f
structure Apart(z TI TO i1 i2:Addr)(bZ bY:List Addr):Prop where
 z1:z∉bZ
 z2:z∉bY
 o1:TO∉bZ
 o2:TO∉bY
 m1:i1∈bZ
 m2:i2∈bY
 x12:i1∉bY
 x21:i2∉bZ
 TIz:TI≠z
 TOz:TO≠z
 TITO:TI≠TO
 TIi1:TI≠i1
 TIi2:TI≠i2
section
variable{prog:Program}{w:World}{A:Around}{E:Ω}{s:Shared}{z TI TO i1 i2:Addr}{bZ bY:List Addr}{n1 n2 i:Nat}{P1 P2:Nat->Value->Prop}{S1 S2:Nat->Heap->Prop}{a b:Value}
def MQ{Q:Ω}(D1:Draws prog w A i1 bZ n1 P1 S1)(D2:Draws prog w A i2 bY n2 P2 S2)(D:Apart z TI TO i1 i2 bZ bY)(hz:IsZip s.heap z TI TO .none)(dr:IsPair s.heap TI (.ref i1) (.ref i2))(dk:IsPair s.heap TO a b)(h1:S1 i s.heap)(h2:S2 i s.heap)(l1:i<n1)(l2:i<n2)(hQ:∀x y h' tk,P1 i x->P2 i y->IsZip h' z TI TO (rawInt s⁻¹)->IsPair h' TO x y->S1 (i+1) h'->S2 (i+1) h'->IsPair h' s⁻¹ x y->h'.objs.size=s⁻¹+1->
   (∀c o,c≠z->c≠TO->c≠i1->c≠i2->s.heap.get? c=some o->h'.get? c=some o)->Q (.ref s⁻¹) {s with heap:=h',toks:=tk}):
  wpAny (model prog w) A (Builtin.«zip.__next__» ⟨[.ref z],[]⟩) (fun fin s'=>∃v,fin=.done (.ret v)/\Q v s') E s:=by
 have f:∀c∈bZ,c≠z:=fun c hc e=>D.z1 (e▸hc);have H:∀c∈bY,c≠z:=fun c hc e=>D.z2 (e▸hc);have I:∀c∈bZ,c≠TO:=fun c hc e=>D.o1 (e▸hc);have J:∀c∈bY,c≠TO:=fun c hc e=>D.o2 (e▸hc);have Z:∀c∈bY,c≠i1:=fun c hc e=>D.x12 (e▸hc);have uP:∀c∈bZ,c≠i2:=fun c hc e=>D.x21 (e▸hc);have jV:i1≠z:=f _ D.m1;have mR:i2≠z:=H _ D.m2;have gJ:TO≠i1:=(I _ D.m1).symm;have mM:TO≠i2:=(J _ D.m2).symm;show wpAny _ _ (field (.ref z) 2 >>= _) _ _ _;refine Ad (Bl hz rfl (x:=.bool false) rfl ?_);show wpAny _ _ (field (.ref z) 3 >>= _) _ _ _;refine Ad (Bl hz rfl (x:=.ref TI) rfl ?_);refine Ad (wpAny_seqItems dr rfl ?_);show wpAny _ _ (Builtin.SmallTypes.ownedTupleIsFree (.ref z) >>= _) _ _ _;refine Ad ?_;unfold Builtin.SmallTypes.ownedTupleIsFree;refine Ad (Bl hz rfl (x:=.none) rfl (Ao ?_));simp only[if_true];refine Ad (wpAny_rule ?_);refine Ad (Bl hz rfl (x:=.ref TO) rfl ?_);refine Ad (wpAny_setField_rec hz (by simp) fun g1 p k1=>?_);replace p:IsZip g1 z TI TO .ellipsis:=p;refine Ad ?_;simp only[List.zipIdx_cons,List.zipIdx_nil,List.forIn_cons,List.forIn_nil];refine Ad (Ad (wpAny_onRaise ?_));show wpAny _ _ (Builtin.SmallTypes.nextOf (.ref i1) >>= _) _ _ _;refine Ad (D1.item i _ _ _ l1 (D1.frame _ _ _ h1 fun c hc o e=>k1.extBut c o (f c hc) e) fun x g2 uZ T U k2=>Ao ?_);have L:IsPair g2 TO a b:=k2.extBut _ _ gJ (k1.extBut _ _ D.TOz dk);refine Ad (wpAny_seqItems L rfl ?_);refine Ad (wpAny_updateSeq_pair L fun g3 q k3=>?_);replace q:IsPair g3 TO x b:=q;refine Ad (wpAny_letGo (Ao ?_));refine Ad (Ad (wpAny_onRaise ?_));show wpAny _ _ (Builtin.SmallTypes.nextOf (.ref i2) >>= _) _ _ _;refine Ad (D2.item i _ _ _ l2 (D2.frame _ _ _ h2 fun c hc o e=>k3.extBut c o (J c hc) (k2.extBut c o (Z c hc) (k1.extBut c o (H c hc) e))) fun y g4 Cz W X g=>Ao ?_);have M:IsPair g4 TO x b:=g.extBut _ _ mM q;refine Ad (wpAny_seqItems M rfl ?_);refine Ad (wpAny_updateSeq_pair M fun d j k5=>?_);replace j:IsPair d TO x y:=j;refine Ad (wpAny_letGo (Ao (Ao ?_)));refine Ad (wpAny_seqItems j rfl ?_);refine Ad (wpAny_newTuple ?_);have hsz:d.objs.size=s⁻¹:=by rw[k5.1,g.1,k3.1,k2.1,k1.1]
 have N:IsZip d z TI TO .ellipsis:=k5.extBut _ _ D.TOz.symm (g.extBut _ _ mR.symm (k3.extBut _ _ D.TOz.symm (k2.extBut _ _ jV.symm p)));have kk:∀c o,c≠z->c≠TO->c≠i1->c≠i2->s.heap.get? c=some o->d.get? c=some o:=fun c o c1 c2 r u e=>
  k5.extBut _ _ c2 (g.extBut _ _ u (k3.extBut _ _ c2 (k2.extBut _ _ r (k1.extBut _ _ c1 e))))
 have d1:S1 (i+1) d:=D1.frame _ _ _ U fun c hc o e=>k5.extBut c o (I c hc) (g.extBut c o (uP c hc) (k3.extBut c o (I c hc) e));have d2:S2 (i+1) d:=D2.frame _ _ _ X fun c hc o e=>k5.extBut c o (J c hc) e;have O:z<d.objs.size:=Ar N;have e1:∀c∈bZ,∀o,d.get? c=some o->c<d.objs.size:=fun c _ o e=>Ar e;show wpAny _ _ (Builtin.SmallTypes.ownedTupleHandOut (.ref z) (.ref d.objs.size) >>= _) _ _ _;refine Ad ?_;unfold Builtin.SmallTypes.ownedTupleHandOut;have z6:IsZip (d.push {cls:=.type "tuple",data:=.seq #[x,y]}) z TI TO .ellipsis:=Ai _ N;refine Ad (wpAny_setField_rec z6 (by simp) fun Y C F=>?_);replace C:IsZip Y z TI TO (rawInt d.objs.size):=C;refine wpAny_setField_rec C (by simp) fun h l G=>?_;replace l:IsZip h z TI TO (rawInt d.objs.size):=l;have up:∀c o,c≠z->d.get? c=some o->h.get? c=some o:=fun c o c1 e=>G.extBut _ _ c1 (F.extBut _ _ c1 (Ai _ e));have S:IsPair h d.objs.size x y:=G.extBut _ _ (Nat.ne_of_gt O) (F.extBut _ _ (Nat.ne_of_gt O) (AK _ rfl));have P:h.objs.size=d.objs.size+1:=by rw[G.1,F.1,Heap.size_push]
 rw[hsz] at l S P;refine Ao ⟨_,rfl,?_⟩;show Q (.ref d.objs.size) _;rw[hsz];exact hQ x y h _ T W l (up _ _ D.TOz j) (D1.frame _ _ _ d1 fun c hc o e=>up c o (f c hc) e) (D2.frame _ _ _ d2 fun c hc o e=>up c o (H c hc) e) S P fun c o c1 c2 r u e=>up c o c1 (kk c o c1 c2 r u e)
def MR{Q:Fin->Shared->Prop}(D1:Draws prog w A i1 bZ n1 P1 S1)(D2:Draws prog w A i2 bY n2 P2 S2)(D:Apart z TI TO i1 i2 bZ bY)(hz:IsZip s.heap z TI TO .none)(T:IsPair s.heap TI (.ref i1) (.ref i2))(U:IsPair s.heap TO a b)(h1:S1 i s.heap)(h2:S2 i s.heap)(L:i=n1\/(i<n1/\i=n2))(H:∀h' e tk,(∀c o,c≠z->c≠TO->c≠i1->c≠i2->s.heap.get? c=some o->h'.get? c=some o)->(∃o,h'.get? e=some o/\o.cls=.type "StopIteration")->E (.ref e) {s with heap:=h',toks:=tk}):wpAny (model prog w) A (Builtin.«zip.__next__» ⟨[.ref z],[]⟩) Q E s:=by
 have g:∀c∈bZ,c≠z:=fun c hc e=>D.z1 (e▸hc);have v:∀c∈bY,c≠z:=fun c hc e=>D.z2 (e▸hc);have M:∀c∈bZ,c≠TO:=fun c hc e=>D.o1 (e▸hc);have N:∀c∈bY,c≠TO:=fun c hc e=>D.o2 (e▸hc);have O:∀c∈bY,c≠i1:=fun c hc e=>D.x12 (e▸hc);have y:i1≠z:=g _ D.m1;have P:i2≠z:=v _ D.m2;have S:TO≠i1:=(M _ D.m1).symm;show wpAny _ _ (field (.ref z) 2 >>= _) _ _ _;refine Ad (Bl hz rfl (x:=.bool false) rfl ?_);show wpAny _ _ (field (.ref z) 3 >>= _) _ _ _;refine Ad (Bl hz rfl (x:=.ref TI) rfl ?_);refine Ad (wpAny_seqItems T rfl ?_);show wpAny _ _ (Builtin.SmallTypes.ownedTupleIsFree (.ref z) >>= _) _ _ _;refine Ad ?_;unfold Builtin.SmallTypes.ownedTupleIsFree;refine Ad (Bl hz rfl (x:=.none) rfl (Ao ?_));simp only[if_true];refine Ad (wpAny_rule ?_);refine Ad (Bl hz rfl (x:=.ref TO) rfl ?_);refine Ad (wpAny_setField_rec hz (by simp) fun g1 h k1=>?_);replace h:IsZip g1 z TI TO .ellipsis:=h;refine Ad ?_;simp only[List.zipIdx_cons,List.zipIdx_nil,List.forIn_cons,List.forIn_nil];refine Ad (Ad (wpAny_onRaise ?_));have f1:=D1.frame _ _ _ h1 fun c hc o e=>k1.extBut c o (g c hc) e;rcases L with p|⟨l1,p⟩
 ·show wpAny _ _ (Builtin.SmallTypes.nextOf (.ref i1) >>= _) _ _ _
  refine Ad (D1.done _ _ _ (p▸f1) fun g2 e k2 j=>?_);obtain⟨q,d,f⟩:=j;have C:IsZip g2 z TI TO .ellipsis:=k2 _ _ y.symm h;have r:e≠z:=fun x=>by subst x;rw[C] at d;cases d;simp at f
  refine wpAny_setField_rec C (by simp) fun g3 _ k3=>H g3 e _ (fun c o c1 _ l _ x=>k3.extBut _ _ c1 (k2 _ _ l (k1.extBut _ _ c1 x))) ⟨q,k3.extBut _ _ r d,f⟩
 ·show wpAny _ _ (Builtin.SmallTypes.nextOf (.ref i1) >>= _) _ _ _
  refine Ad (D1.item i _ _ _ l1 f1 fun x g2 W X Y k2=>Ao ?_);have F:IsPair g2 TO a b:=k2.extBut _ _ S (k1.extBut _ _ D.TOz U);refine Ad (wpAny_seqItems F rfl ?_);refine Ad (wpAny_updateSeq_pair F fun g3 Z k3=>?_);refine Ad (wpAny_letGo (Ao ?_));refine Ad (Ad (wpAny_onRaise ?_));have f2:S2 i g3:=D2.frame _ _ _ h2 fun c hc o e=>k3.extBut c o (N c hc) (k2.extBut c o (O c hc) (k1.extBut c o (v c hc) e));show wpAny _ _ (Builtin.SmallTypes.nextOf (.ref i2) >>= _) _ _ _;refine Ad (D2.done _ _ _ (p▸f2) fun g4 e u j=>?_);obtain⟨q,d,f⟩:=j;have G:IsZip g4 z TI TO .ellipsis:=u _ _ P.symm (k3.extBut _ _ D.TOz.symm (k2.extBut _ _ y.symm h));have r:e≠z:=fun x=>by subst x;rw[G] at d;cases d;simp at f
  refine wpAny_setField_rec G (by simp) fun I _ k5=>H I e _ (fun c o c1 c2 l J x=>k5.extBut _ _ c1 (u _ _ J (k3.extBut _ _ c2 (k2.extBut _ _ l (k1.extBut _ _ c1 x))))) ⟨q,k5.extBut _ _ r d,f⟩
end
def HA{prog:Program}{w:World}{A:Around}{z TI TO i1 i2:Addr}{bZ bY:List Addr}{n1 n2:Nat}{P1 P2:Nat->Value->Prop}{S1 S2:Nat->Heap->Prop}(D1:Draws prog w A.in1 i1 bZ n1 P1 S1)(D2:Draws prog w A.in1 i2 bY n2 P2 S2)(D:Apart z TI TO i1 i2 bZ bY):WalksT prog w A z (z::TI::TO::(bZ++bY)) [z,TO,i1,i2] (min n1 n2) (fun i u=>∃x y,P1 i x/\P2 i y/\u=#[x,y])
   (fun i h=>IsZip h z TI TO .none/\IsPair h TI (.ref i1) (.ref i2)/\(∃a b,IsPair h TO a b)/\S1 i h/\S2 i h)
   (fun i T h=>IsZip h z TI TO (rawInt T)/\IsPair h TI (.ref i1) (.ref i2)/\(∃a b,IsPair h TO a b)/\S1 (i+1) h/\S2 (i+1) h/\T≠z/\T≠TO/\T≠i1/\T≠i2) where
 sub:=fun c hc=>by
  simp at hc ⊢;rcases hc with rfl|rfl|rfl|rfl
  ·simp
  ·simp
  ·exact .inr (.inr (.inr (.inl D.m1)))
  ·exact .inr (.inr (.inr (.inr D.m2)))
 frame:=fun i h h' j hk=>by
  obtain⟨hz,f,⟨a,b,g⟩,h1,h2⟩:=j;exact⟨hk z (by simp) _ hz,hk TI (by simp) _ f,⟨a,b,hk TO (by simp) _ g⟩,D1.frame _ _ _ h1 fun c hc o e=>hk c (by simp[hc]) o e,D2.frame _ _ _ h2 fun c hc o e=>hk c (by simp[hc]) o e⟩
 item:=fun i s Q E hi j l=>by
  obtain⟨hz,f,⟨a,b,g⟩,h1,h2⟩:=j;have d:s.TypeIs (.ref z) "zip":=⟨_,hz,rfl⟩;unfold pyNext;refine Ad (wpAny_attempt (wpAny_callSpecial?_slot (name:=Str.ofString "__next__") d F.slot_zip_next (wpAny_call_entry F.slot_zip_next d F.entry_zip_next
   (MQ D1 D2 D hz f g h1 h2 (Av hi (Nat.min_le_left ..)) (Av hi (Nat.min_le_right ..)) fun x y h' tk v C a1 a2 a3 a4 a5 P hk=>Ao ?_) (F.args_zip_next_1 _))))
  have lt:∀{c o},s.heap.get? c=some o->s⁻¹≠c:=fun e=>Nat.ne_of_gt (Ar e);obtain⟨S,l1⟩:=D1.live _ _ h1;obtain⟨U,l2⟩:=D2.live _ _ h2;exact l s⁻¹ #[x,y] h' tk ⟨_,_,v,C,rfl⟩ (Ae _) ⟨_,a5,rfl,_,rfl⟩ ⟨a1,hk _ _ D.TIz D.TITO D.TIi1 D.TIi2 f,⟨_,_,a2⟩,a3,a4,lt hz,lt g,lt l1,lt l2⟩
   fun c o hc e=>hk c o (fun x=>hc (by simp[x])) (fun x=>hc (by simp[x])) (fun x=>hc (by simp[x])) (fun x=>hc (by simp[x])) e
 go:=fun aQ k pos i T s Q E r l=>by
  obtain⟨hz,f,⟨a,b,g⟩,h1,h2,_⟩:=r;refine wpAny_letOwnedTupleGo_zip hz fun h' G p=>l h' ⟨G,p.extBut _ _ D.TIz f,⟨a,b,p.extBut _ _ D.TOz g⟩,
   D1.frame _ _ _ h1 fun c hc o e=>p.extBut c o (fun q=>D.z1 (q▸hc)) e,D2.frame _ _ _ h2 fun c hc o e=>p.extBut c o (fun q=>D.z2 (q▸hc)) e⟩ fun c o hc e=>p.extBut _ _ (fun x=>hc (by simp[x])) e
 apart:=fun i T h r d=>by
  obtain⟨_,_,_,_,_,I,J,L,M⟩:=r;simp at d;rcases d with rfl|rfl|rfl|rfl
  ·exact I rfl
  ·exact J rfl
  ·exact L rfl
  ·exact M rfl
 done:=fun s Q E j l=>by
  obtain⟨hz,f,⟨a,b,g⟩,h1,h2⟩:=j;have d:s.TypeIs (.ref z) "zip":=⟨_,hz,rfl⟩;have O:min n1 n2=n1\/(min n1 n2<n1/\min n1 n2=n2):=ω
  unfold pyNext;refine Ad (wpAny_attempt (wpAny_callSpecial?_slot (name:=Str.ofString "__next__") d F.slot_zip_next
   (wpAny_call_entry F.slot_zip_next d F.entry_zip_next (MR D1 D2 D hz f g h1 h2 O fun h' e tk hk H=>?_) (F.args_zip_next_1 _))))
  obtain⟨o,N,hc⟩:=H;refine Ad (wpAny_isInstance (T:="StopIteration") (b:=true) ⟨o,N,hc⟩ isSubtype_stop ?_);exact Ao (l _ tk fun c o hc e=>hk c o (fun x=>hc (by simp[x])) (fun x=>hc (by simp[x])) (fun x=>hc (by simp[x])) (fun x=>hc (by simp[x])) e)
 self:=fun i s Q E j l=>wpAny_pyIter_zip j.1 l
end Zp
end
section
namespace L2
open PySem PySem.Spec PyProof.Rows
section
variable{X:Cx}{aa:Ψ}{σ:St}{H:Hp}{s:Shared}{h':Heap}
def Inv.turneds{t':Nat}{ch:List Addr}(I:Inv X aa σ H s)(d:∀b∈ch,cb X aa H b)(k:∀b o,b∉ch->s.heap.get? b=some o->h'.get? b=some o):Inv X aa σ H {s with heap:=h',toks:=t'}:=by
 have a:∀b u,H b=some u->b∉ch:=fun b u e z=>by have:=(d b z).1;rw[this] at e;cases e
 refine I.step (g':=s.gens) (d':=s.drawn) (ch:=ch) (fun b hb=>?_) (fun b o _ _ hc e _=>k b o hc e) (fun b o _ _ hc e _=>⟨o.slots,k b o hc e⟩) (fun _ _ _ _ n=>n)
  (fun b o hc e=>⟨o,k b o hc e⟩) (fun _ _ e=>e) (fun _ _ _ e=>e) (fun b ps e=>⟨#[],by rw[e];simp⟩) (fun m f=>?_) (fun b u e=>?_) I.bare
 ·obtain⟨l,f1,f2,g,h,i⟩:=d b hb
  exact⟨g,f1,h,i⟩
 ·obtain⟨o,es,ep,j,r⟩:=f
  exact⟨o,es,ep,k _ o (fun z=>(d _ z).2.1 rfl) j,r⟩
 ·refine(I.hok b u e).stay (fun c v hc q=>k c v ?_ q) (fun _ q=>q) fun _ _ q=>q
  rcases hc with z|z
  ·rw[z];exact a b u e
  ·exact a c _ z
def Inv.adopt{a:Addr}{o:HO}(I:Inv X aa σ H s)(hn:H a=none)(h1:X.s₀⁻¹<=a)(h2:a≠X.env.locals)(f:∀x c,X.env.cells.lookup x=some c->c≠a)(g:∀p∈X.pn++aa,p.1≠a)(new:zW X.prog X.w (upd H a o) s.heap a o):Inv X aa σ (upd H a o) s:=by
 refine I.step (h':=s.heap) (g':=s.gens) (t':=s.toks) (d':=s.drawn) (ch:=[a]) (fun b hb=>?_) (fun b o _ _ hc e _=>e) (fun b o _ _ hc e _=>⟨o.slots,e⟩) (fun b o hc e n=>?_)
  (fun b o hc e=>⟨o,e⟩) (fun b xs e=>?_) (fun b o u e=>?_) (fun b ps e=>⟨#[],?_⟩) (fun m d=>d) (fun b u e=>?_) I.bare
 ·have e:b=a:=by simpa using hb
  subst e;exact⟨.inr h1,h2,f,g⟩
 ·rw[ao (fun z=>hc (by simp[z]))];exact n
 ·rw[ao (zk e hn)];exact e
 ·rw[ao (zk e hn)];exact e
 ·rw[ao (zk e hn),e];simp
 ·by_cases hb:b=a
  ·subst hb;rw[za] at e;cases e;exact new
  ·rw[ao hb] at e
   exact(I.hok b u e).stay (fun _ _ _ q=>q) (fun c q=>by rw[ao (zk q hn)];exact q) fun c xs q=>by rw[ao (zk q hn)];exact q
def Inv.grown{t':Nat}{ch:List Addr}{a:Addr}{o:HO}(I:Inv X aa σ H s)(f:∀b∈ch,cb X aa H b)(k:∀b o,b∉ch->s.heap.get? b=some o->h'.get? b=some o)(hp:s⁻¹<=a)(new:zW X.prog X.w (upd H a o) h' a o):Inv X aa σ (upd H a o) {s with heap:=h',toks:=t'}:=by
 have I1:Inv X aa σ H {s with heap:=h',toks:=t'}:=I.turneds f k;obtain⟨c,f1,f2,g,d,e⟩:=I.fpOk hp (I.hok.fresh hp);exact I1.adopt c (Ag I.sz hp) f1 d e new
def HC{b t:Addr}{o:Obj}(I:Inv X aa σ H s)(f:cb X aa H b)(hk:X.K.lookup t=some o):t≠b:=by
 intro z;subst z;have e:=I.ok.mod.kin t o hk;rcases f.2.2.2.1 with q|q
 ·exact I.ok.noex t o e q
 ·exact absurd (Av (Ar (I.ok.bs t o e).1) q) (Nat.lt_irrefl _)
def HD{b t:Addr}{xs:List V}(I:Inv X aa σ H s)(f:cb X aa H b)(h:SqT X.K H t xs):t≠b:=by
 rcases h with (h|⟨o,h⟩)|⟨o,_,_,hk,_⟩
 ·exact zk h f.1
 ·exact zk h f.1
 ·exact HC I f hk
def Ev{b t:Addr}{xs:List V}(I:Inv X aa σ H s)(f:cb X aa H b)(h:SqL X.K H t xs):t≠b:=by
 rcases h with (h|⟨o,h⟩)|⟨o,_,_,hk,_⟩
 ·exact zk h f.1
 ·exact zk h f.1
 ·exact HC I f hk
end
def Ew{P:Program}{w:World}{K:Af}{J:It}{a wr:List Addr}{it:Addr}{tn:Nat->Heap->Prop}{aQ:List Expr}{k:Nat}{pos:Pos}(mem:it∈a)(obj:∀i h,tn i h->∀b∈a,∃o,h.get? b=some o/\∀v,o.data≠.cell v)(keep:∀i h h',tn i h->(∀b∈a,∀o,h.get? b=some o->h'.get? b=some o)->tn i h')(hw:∀b∈wr,b∈a)(W:∀(X:Cx),X.prog=P->X.w=w->X.K=K->X.calm=true->∀(i:Nat)(aa:Ψ)(s:Shared)(σ:St)(H:Hp),Inv X aa σ H s->(∀b∈a,cb X aa H b)->tn i s.heap->(J.go i H\/J.stop i H)->
   ∃(z:List Addr)(n:Nat)(x:Nat->Array Value->Prop)(S:Nat->Heap->Prop)(Mid:Nat->Addr->Heap->Prop),WalksT P w X.A it z wr n x S Mid/\S i s.heap/\(∀j h,S j h->tn j h)/\
    (J.go i H->i<n/\∀d,x i d->∃xs:List V,Vals xs d.toList/\xs.length<=sizeLine/\∀p,H p=none->J.yld i H (.ref p) (upd H p (.tup xs)))/\(J.stop i H->i=n))
  (self:∀(A:Around)(i:Nat)(s:Shared)(Q:Ω)(E:Ω),tn i s.heap->Q (.ref it) s->wpAny (model P w) A (pyIter (.ref it)) Q E s) :
  Turn P w K (.Tuple aQ k pos) J a it tn where
 mem:=mem
 obj:=obj
 keep:=keep
 item:=by
  intro X f l r hc i aa s σ H E I c st hg;obtain⟨z,n,x,S,Mid,WT,C,D,g,_⟩:=W X f l r hc i aa s σ H I c st (.inl hg);obtain⟨hi,O⟩:=g hg;subst f l r;refine WT.item i s _ _ hi C fun T d h' tk hp y F G hk=>⟨.ref T,rfl,?_⟩;obtain⟨xs,U,hz,hy⟩:=O d hp;have I1:Inv X aa σ (upd H T (.tup xs)) {s with heap:=h',toks:=tk}:=I.grown (ch:=wr) (fun b hb=>c b (hw b hb)) hk y (show zW X.prog X.w _ h' T (.tup xs) from⟨hz,d.toList,U,by have q:IsTup h' T d:=F;simpa using q⟩);have Z:∀b∈a,b≠T:=fun b hb=>by
   obtain⟨o,e,_⟩:=obj i _ st b hb;exact Az (Av (Ar e) y)
  have u:∀b∈a,cb X aa (upd H T (.tup xs)) b:=fun b hb=>by
   obtain⟨Y,fr⟩:=c b hb;exact⟨by rw[ao (Z b hb)];exact Y,fr⟩
  refine WT.go aQ k pos i T _ _ _ G fun L M N=>?_;have I2:Inv X aa σ (upd H T (.tup xs)) {s with heap:=L,toks:=tk}:=I1.turneds (s:={s with heap:=h',toks:=tk}) (t':=tk) (ch:=wr) (fun b hb=>u b (hw b hb)) N;exact⟨.ref T,_,I2,rfl,hy T (I.hok.fresh y),D _ _ M,fun b hb=>(u b hb).1⟩
 done:=by
  intro X f l r hc i aa s σ H E I c st hg;obtain⟨z,n,x,S,Mid,WT,C,D,_,g⟩:=W X f l r hc i aa s σ H I c st (.inr hg);subst f l r;have e:=g hg;subst e;exact WT.done s _ _ C fun h' tk hk=>⟨rfl,I.turneds (ch:=wr) (fun b hb=>c b (hw b hb)) hk⟩
 self:=self
def Bv(K:Af)(a b:Addr):It:=
 ⟨fun i H=>∃xs ys,SqT K H a xs/\SqT K H b ys/\i<min xs.length ys.length,
  fun i H v H'=>∃p x y,v=.ref p/\H p=none/\H'=upd H p (.tup [x,y])/\(∀xs,SqT K H a xs->xs[i]?=some x)/\∀ys,SqT K H b ys->ys[i]?=some y,
  fun i H=>∃xs ys,SqT K H a xs/\SqT K H b ys/\i=min xs.length ys.length⟩
def cR:(2:Nat)<=sizeLine:=by rw[sizeLine_eq];decide
def MS{P:Program}{w:World}{K:Af}{aQ:List Expr}{k:Nat}{pos:Pos}(C D z TI TO i1 i2:Addr)(hd:TI≠z/\TO≠z/\TI≠TO/\TI≠i1/\TI≠i2/\z≠i1/\z≠i2/\TO≠i1/\TO≠i2/\i1≠i2):Turn P w K (.Tuple aQ k pos) (Bv K C D) [z,TI,TO,i1,i2] z (fun i h=>IsZip h z TI TO .none/\IsPair h TI (.ref i1) (.ref i2)/\(∃a b,IsPair h TO a b)/\h.IsTupleIter i1 C i/\h.IsTupleIter i2 D i):=by
 obtain⟨d1,d2,d3,d4,d5,d6,d7,d8,d9,N⟩:=hd;refine Ew (wr:=[z,TO,i1,i2]) (by simp) (fun i h st b hb=>?_) (fun i h h' st c=>?_) (fun b hb=>?_) (fun X hP hw hK hc i aa s σ H I M st jc=>?_) fun A i s Q E st h=>wpAny_pyIter_zip st.1 h
 ·obtain⟨a1,a2,⟨a,b',a3⟩,⟨o4,a4,_,F⟩,⟨o5,a5,_,e5⟩⟩:=st
  simp at hb;rcases hb with rfl|rfl|rfl|rfl|rfl
  ·exact⟨_,a1,fun v z=>by cases z⟩
  ·exact⟨_,a2,fun v z=>by cases z⟩
  ·exact⟨_,a3,fun v z=>by cases z⟩
  ·exact⟨_,a4,fun v z=>by rw[F] at z;cases z⟩
  ·exact⟨_,a5,fun v z=>by rw[e5] at z;cases z⟩
 ·obtain⟨a1,a2,⟨a,b',a3⟩,a4,a5⟩:=st
  exact⟨c z (by simp) _ a1,c TI (by simp) _ a2,⟨a,b',c TO (by simp) _ a3⟩,a4.at fun o e=>c i1 (by simp) o e,a5.at fun o e=>c i2 (by simp) o e⟩
 ·simp at hb ⊢
  rcases hb with rfl|rfl|rfl|rfl<;>simp
 ·subst hP hw hK
  have hd:∃xs ys,SqT X.K H C xs/\SqT X.K H D ys:=by
   rcases jc with ⟨xs,ys,a,b,_⟩|⟨xs,ys,a,b,_⟩
   ·exact⟨xs,ys,a,b⟩
   ·exact⟨xs,ys,a,b⟩
  obtain⟨xs,ys,d,l⟩:=hd;obtain⟨us,O,p1,_⟩:=I.tuple d;obtain⟨S,T,p2,_⟩:=I.tuple l;have U:=O.length;have W:=T.length;have Y:=I.ok.hd hc;obtain⟨a1,a2,a3,a4,a5⟩:=st;have f:=fun b hb=>HD I (M b hb) d;have f':=fun b hb=>HD I (M b hb) l;have AP:Zp.Apart z TI TO i1 i2 [i1,C] [i2,D]:=by
   refine⟨?_,?_,?_,?_,by simp,by simp,?_,?_,d1,d2,d3,d4,d5⟩
   ·simp;exact⟨d6,(f z (by simp)).symm⟩
   ·simp;exact⟨d7,(f' z (by simp)).symm⟩
   ·simp;exact⟨d8,(f TO (by simp)).symm⟩
   ·simp;exact⟨d9,(f' TO (by simp)).symm⟩
   ·simp;exact⟨N,(f' i1 (by simp)).symm⟩
   ·simp;exact⟨N.symm,(f i2 (by simp)).symm⟩
  have WZ:=Zp.HA (prog:=X.prog) (w:=X.w) (A:=X.A) (Zp.Hz (A:=X.A.in1) Y i1 C (f i1 (by simp)) us.toArray) (Zp.Hz (A:=X.A.in1) Y i2 D (f' i2 (by simp)) S.toArray) AP;refine⟨_,_,_,_,_,WZ,⟨a1,a2,a3,⟨a4,p1⟩,⟨a5,p2⟩⟩,fun j h st=>⟨st.1,st.2.1,st.2.2.1,st.2.2.2.1.1,st.2.2.2.2.1⟩,fun g=>?_,fun g=>?_⟩
  ·obtain⟨q,r,G,J,hi⟩:=g
   have e1:=I.tuple_inj G d;have e2:=I.tuple_inj J l;subst e1 e2;refine⟨by simpa[<-U,<-W] using hi,fun aG hp=>?_⟩;obtain⟨x,y,px,py,rfl⟩:=hp;have iJ:us[i]?=some x:=by simpa using px
   have L:S[i]?=some y:=by simpa using py
   have lx:i<q.length:=ω
   have ly:i<r.length:=ω
   have Z:q[i]?=some q[i]:=by simp[lx]
   have gy:r[i]?=some r[i]:=by simp[ly]
   obtain⟨u,e3,ru⟩:=O.get Z;obtain⟨u',F,cQ⟩:=T.get gy;rw[iJ] at e3;cases e3;rw[L] at F;cases F;refine⟨[q[i],r[i]],.cons ru (.cons cQ .nil),cR,fun p hp=>⟨p,_,_,rfl,hp,rfl,fun zs hz=>?_,fun zs hz=>?_⟩⟩
   ·rw[I.tuple_inj hz d];exact Z
   ·rw[I.tuple_inj hz l];exact gy
  ·obtain⟨q,r,G,J,hi⟩:=g
   have e1:=I.tuple_inj G d;have e2:=I.tuple_inj J l;subst e1 e2
   simpa[<-U,<-W] using hi
def MT(l1 l2:Addr)(xs ys:Array Value):Meets (Builtin.«zip.__new__» ⟨[.type "zip",.ref l1,.ref l2],[]⟩) (fun _ R s=>s.heap.IsTuple l1 xs/\s.heap.IsTuple l2 ys/\
   ∀h',IsZip h' (s⁻¹+4) (s⁻¹+2) (s⁻¹+3) .none->IsPair h' (s⁻¹+2) (.ref s⁻¹) (.ref (s⁻¹+1))->
   IsPair h' (s⁻¹+3) .none .none->h'.IsTupleIter s⁻¹ l1 0->h'.IsTupleIter (s⁻¹+1) l2 0->
   (∀c o,s.heap.get? c=some o->h'.get? c=some o)->R (.ok (.ret (.ref (s⁻¹+4)))) {s with heap:=h'}):=
 .of_wp fun prog w A R s h=>by
  obtain⟨hp,g,d,tk,os⟩:=s;obtain⟨b,e,h⟩:=h;have j:=sub_zip;have f:Heap.IsTuple (Shared.heap ⟨hp,g,d,tk,os⟩) l1 xs:=b;have i:Heap.IsTuple (Shared.heap ⟨hp.push {cls:=.type "tuple_iterator",data:=.fields #[.ref l1,.int 0 0]},g,d,tk,os⟩) l2 ys:=Heap.IsTuple.push e _
  wp_walk using wpAny_pyIter_tuple f,wpAny_pyIter_tuple i
  refine⟨_,rfl,?_⟩;dsimp only at h ⊢;have a:∀(h:Heap)(o:Obj),(h.push o).objs.size=h.objs.size+1:=fun h o=>Heap.size_push ..;simp only[a,Nat.add_assoc,Nat.reduceAdd];refine h _ ?_ ?_ ?_ ?_ ?_ fun c o x=>Ai _ (Ai _ (Ai _ (Ai _ (Ai _ x))))
  ·exact Heap.get?_push_at (by simp only[a]) rfl
  ·exact Ai _ (Ai _ (Heap.get?_push_at (by simp only[a]) rfl))
  ·exact Ai _ (Heap.get?_push_at (by simp only[a]) rfl)
  ·exact⟨_,Ai _ (Ai _ (Ai _ (Ai _ (AK _ rfl)))),rfl,rfl⟩
  ·exact⟨_,Ai _ (Ai _ (Ai _ (Heap.get?_push_at (by simp only[a]) rfl))),rfl,rfl⟩
section
variable{X:Cx}{aQ:List Expr}{k:Nat}{cN:Pos}
def Ex(K:Af)(ta:TA):TI:=fun σ H R=>ta σ H fun vs H1=>∃a b,vs=[.ref a,.ref b]/\(∃xs,SqT K H1 a xs)/\(∃ys,SqT K H1 b ys)/\R (Bv K a b) H1
def MU{a b:Expr}{ta:TA}{p pos:Pos}(hg:Gl X "zip")(C:X.mg "zip"=none)(D:A4 "zip"=some (.type "zip"))(E:PA X [a,b] ta)(G:starEach [a,b] X.env=[(false,eval a X.env),(false,eval b X.env)]:=by rfl)(j:starEach [b] X.env=[(false,eval b X.env)]:=by rfl):PI X (.Tuple aQ k cN) (.Call (.Name "zip" p) [a,b] [] pos) (Ex X.K ta):=by
 intro aa s σ H R I h;refine Call_ (iP I hg C D (PyProof.Rows.callWith_type1 (aT (E pos aa s σ H _ I h) fun us c ⟨vs,H1,I1,l,d⟩=>?_) (by rw[G,j]) (by rw[j];rfl)));obtain⟨f,g,e,⟨xs,d⟩,⟨ys,r⟩,q⟩:=d;subst e;obtain⟨u,L,rfl,v,w⟩:=vals2 l;cases v;cases w;obtain⟨x,_,y,_⟩:=I1.tuple d;obtain⟨A,_,p2,_⟩:=I1.tuple r;refine callType_new F.called_zip ξ (F.typeCall_zip_2 _ _) (F.newCall_zip_2 _ _) (fun obj=>F.args_object_init_3 obj _ _) F.entry_zip_new (MT f g x.toArray A.toArray) ⟨y,p2,fun h' a1 a2 a3 a4 a5 o=>?_⟩;refine⟨⟨_,a1,rfl⟩,wpAny_pyIter_zip a1 ?_⟩;have J:Inv X aa σ H1 {c with heap:=h'}:=I1.kept (t':=c.toks) o;refine⟨c⁻¹+4,[c⁻¹+4,c⁻¹+2,c⁻¹+3,c⁻¹,c⁻¹+1],_,_,H1,rfl,J,MS f g _ _ _ _ _ (by refine⟨?_,?_,?_,?_,?_,?_,?_,?_,?_,?_⟩<;>(intro z;have M:(_:Nat)=_:=z;(first|lia|omega))),⟨a1,a2,⟨_,_,a3⟩,a4,a5⟩,fun b hb=>?_,q⟩;have i:c⁻¹<=b:=by
  simp only[List.mem_cons,List.not_mem_nil,or_false] at hb;rcases hb with rfl|rfl|rfl|rfl|rfl
  ·exact Bb _ _
  ·exact Bb _ _
  ·exact Bb _ _
  ·exact Ae _
  ·exact Bb _ _
 exact I1.fpOk i (I1.hok.fresh i)
end
def Ey(K:Af)(a:Addr):It:=
 ⟨fun i H=>∃xs,SqL K H a xs/\i<xs.length,
  fun i H v H'=>∃p x,v=.ref p/\H p=none/\H'=upd H p (.tup [.int i,x])/\∀xs,SqL K H a xs->xs[i]?=some x,
  fun i H=>∃xs,SqL K H a xs/\i=xs.length⟩
def MV{P:Program}{w:World}{K:Af}{aQ:List Expr}{k:Nat}{pos:Pos}(a e it:Addr)(hd:e≠it):Turn P w K (.Tuple aQ k pos) (Ey K a) [e,it] e (fun i h=>(∃old,IsEnum h e it i old)/\h.IsListIter it a i):=by
 refine Ew (wr:=[e,it]) (by simp) (fun i h st b hb=>?_) (fun i h h' st y=>?_) (fun b hb=>hb) (fun X G hw J hc i aa s σ H I L st M=>?_) fun A i s Q E st h=>?_
 ·obtain⟨⟨old,a1⟩,⟨o4,a4,_,N⟩⟩:=st
  simp at hb;rcases hb with rfl|rfl
  ·exact⟨_,a1,fun v z=>by cases z⟩
  ·exact⟨_,a4,fun v z=>by rw[N] at z;cases z⟩
 ·obtain⟨⟨old,a1⟩,a4⟩:=st
  exact⟨⟨old,y e (by simp) _ a1⟩,a4.at fun o q=>y it (by simp) o q⟩
 ·subst G hw J
  have r:∃xs,SqL X.K H a xs:=by
   rcases M with ⟨xs,q,_⟩|⟨xs,q,_⟩
   ·exact⟨xs,q⟩
   ·exact⟨xs,q⟩
  obtain⟨xs,c⟩:=r;obtain⟨us,C,O,_⟩:=I.list c;have D:=C.length;have U:=I.ok.hd hc;obtain⟨a1,a4⟩:=st;have f:=fun b hb=>Ev I (L b hb) c;have Y:=WalksT.enumerateD (prog:=X.prog) (w:=X.w) (A:=X.A) (Draws.list (A:=X.A.in1) U it a (f it (by simp)) us.toArray) e hd (by simp;exact⟨hd,(f e (by simp)).symm⟩) (by simp);refine⟨_,_,_,_,_,Y,⟨a1,a4,O.isList⟩,fun j h st=>⟨st.1,st.2.1⟩,fun g=>?_,fun g=>?_⟩
  ·obtain⟨d,l,hi⟩:=g
   have e1:=I.list_inj l c;subst e1;refine⟨by simpa[<-D] using hi,fun Z hp=>?_⟩;obtain⟨t,x,S,rfl⟩:=hp;have W:us[i]?=some x:=by simpa using S
   have F:d[i]?=some d[i]:=by simp[hi]
   obtain⟨u,e3,T⟩:=C.get F;rw[W] at e3;cases e3;refine⟨[.int i,d[i]],.cons ⟨_,rfl⟩ (.cons T .nil),cR,fun p hp=>⟨p,_,rfl,hp,rfl,fun zs hz=>?_⟩⟩;rw[I.list_inj hz c];exact F
  ·obtain⟨d,l,hi⟩:=g
   have e1:=I.list_inj l c;subst e1
   simpa[<-D] using hi
 ·obtain⟨⟨old,a1⟩,_⟩:=st
  exact wpAny_pyIter_enum a1 h
section
variable{X:Cx}{aQ:List Expr}{k:Nat}{cN:Pos}
def MW(K:Af)(ta:TA):TI:=fun σ H R=>ta σ H fun vs H1=>∃a,vs=[.ref a]/\(∃xs,SqL K H1 a xs)/\R (Ey K a) H1
def HE{a:Expr}{ta:TA}{p pos:Pos}(hg:Gl X "enumerate")(o:X.mg "enumerate"=none)(r:A4 "enumerate"=some (.type "enumerate"))(v:PA X [a] ta)(w:starEach [a] X.env=[(false,eval a X.env)]:=by rfl):PI X (.Tuple aQ k cN) (.Call (.Name "enumerate" p) [a] [] pos) (MW X.K ta):=by
 intro aa s σ H R I h;refine Call_ (iP I hg o r (PyProof.Rows.callWith_type1 (aT (v pos aa s σ H _ I h) fun us c ⟨vs,H1,I1,g,d⟩=>?_) w rfl));obtain⟨a',e,⟨xs,d⟩,q⟩:=d;subst e;obtain⟨u,rfl,j⟩:=vals1 g;cases j;obtain⟨y,_,l,_⟩:=I1.list d;refine call_enumerate_list l.isList fun h' a1 a2 a3 i=>?_;refine wpAny_pyIter_enum a1 ?_;have x:Inv X aa σ H1 {c with heap:=h'}:=I1.kept (t':=c.toks) i;refine⟨c⁻¹+1,[c⁻¹+1,c⁻¹],_,_,H1,rfl,x,MV a' _ _ (by intro z;have A:(_:Nat)=_:=z;(first|lia|omega)),⟨⟨_,a1⟩,a2⟩,fun b hb=>?_,q⟩;have f:c⁻¹<=b:=by
  simp only[List.mem_cons,List.not_mem_nil,or_false] at hb;rcases hb with rfl|rfl
  ·exact Bb _ _
  ·exact Ae _
 exact I1.fpOk f (I1.hok.fresh f)
def dG:∀{bs:List Bool}{us:List Value},Vals (bs.map V.bl) us->LSm.BoolsAre us bs
 |[],_,.nil=>.nil
 |b::bs,_,.cons r t=>by cases r;exact .cons b (dG t)
def nq(hc:X.calm=true):fj X (.builtin "all") (fun xs H Q=>∃(l:Addr)(bs:List Bool),xs=[.ref l]/\SqL X.K H l (bs.map V.bl)/\Q (.bl (bs.all id)) H):=by
 intro aa s σ H xs us Q I r h;obtain⟨l,bs,rfl,hq,q⟩:=h;obtain⟨u,rfl,g⟩:=vals1 r;cases g;obtain⟨ad,j,o,_⟩:=I.list hq;have p:=I.ok.hd hc;have a:=o.isList;have hb:=dG j;have c:l<s⁻¹:=by obtain⟨_,e,_⟩:=a;exact Ar e
 refine call_all_walk (wpAny_pyIter_list a ?_);refine⟨s⁻¹,[s⁻¹,l],[s⁻¹],ad.toArray.size,_,_,fun i=>(bs[i]?).getD true,rfl,Walks.list (A:=X.A.in1) p _ l (Az c) ad.toArray,
  ⟨⟨_,AK _ rfl,rfl,rfl⟩,a.push _⟩,fun i v s' w x f d=>?_,fun h' tk hk=>?_⟩
 ·obtain⟨b,e,rfl⟩:=hb.get i v (by simpa using f)
  simp only[e,Option.getD_some] at d;exact wpAny_truthy_bool d
 ·have e:((Ah ad.toArray.size).all fun i=>(bs[i]?).getD true)=bs.all id:=by
   rw[AC,hb.length];exact LSm.range_all bs
  rw[e];exact⟨.bl _,H,I.kept (LSm.kept_iter hk),rfl,q⟩
end
section
variable{K:Af}{a:Addr}{xs:List V}{g:TG}{tc:TT}{te:TE}{σ:St}{H1:Hp}{Q:VK}{D:Addr}
def Ez(n:Nat)(a:Nat->St->List V->Hp->Prop)(i m:Nat)(σ:St)(H:Hp):Prop:=m=n-i/\i<=n/\∃ys,ys.length<=i/\a i σ ys H
def fE(n:Nat)(d:Nat->St->List V->Hp->Prop)(D:Addr)(i:Nat)(c:St):VK:=fun y b=>∃ys a,b D=some (.lst ys)/\ys.length<sizeLine/\a<n-i/\Ez n d (i+1) a c (upd b D (.lst (ys++[y])))
def c5(n:Nat)(c:Nat->St->List V->Hp->Prop)(i:Nat)(b:St)(d:Hp):Prop:=∃a,a<n-i/\Ez n c (i+1) a b d
def bB{n:Nat}{c:Nat->St->List V->Hp->Prop}{i:Nat}{b:St}{ys:List V}{y:V}{a:Hp}(hn:n<=sizeLine)(hi:i<n)(d:ys.length<=i)(e:a D=some (.lst ys))(p:c (i+1) b (ys++[y]) (upd a D (.lst (ys++[y])))):fE n c D i b y a:=
 ⟨ys,n-(i+1),e,ω,ω,rfl,hi,ys++[y],by simp;(first|lia|omega),p⟩
def gC{n:Nat}{b:Nat->St->List V->Hp->Prop}{i:Nat}{a:St}{ys:List V}{c:Hp}(hi:i<n)(d:ys.length<=i)(p:b (i+1) a ys c):c5 n b i a c:=
 ⟨n-(i+1),ω,rfl,hi,ys,ω,p⟩
def rg{J:It}(n:Nat)(a:Nat->St->List V->Hp->Prop)(l:a 0 σ [] (upd H1 D (.lst [])))(o:∀σ ys H,a n σ ys H->J.stop n H)(q:∀i σ ys H,i<n->a i σ ys H->J.go i H)(r:∀i σ ys H x H',i<n->ys.length<=i->a i σ ys H->J.yld i H x H'->g x σ H' fun d s=>tc d s fun b h=>if b=true then te d h (fE n a D i d) else c5 n a i d h)(hd:∀σ ys H,a n σ ys H->Q (.ref D) H):cm J g tc te σ H1 D Q:=by
 refine⟨Ez n a,⟨n,by simp,AB _,[],Ae _,l⟩,?_⟩;rintro i m f H2 ⟨rfl,hi,ys,j,p⟩
 by_cases c:i<n
 ·exact .inr ⟨q i f ys H2 c p,fun x u y=>r i f ys H2 x u c j p y⟩
 ·have e:i=n:=ω
  subst e;exact .inl ⟨o f ys H2 p,hd f ys H2 p⟩
def zY(c:Nat->St->List V->Hp->Prop)(j:c 0 σ [] (upd H1 D (.lst [])))(f:∀i σ ys H,c i σ ys H->SqL K H a xs)(l:∀i σ ys H x,xs[i]?=some x->i<xs.length->ys.length<=i->c i σ ys H->g x σ H fun d o=>tc d o fun b h=>if b=true then te d h (fE xs.length c D i d) else c5 xs.length c i d h)(hd:∀σ ys H,c xs.length σ ys H->Q (.ref D) H):cm (dS K a) g tc te σ H1 D Q:=by
 refine rg xs.length c j (fun σ ys H p=>⟨xs,f _ _ _ _ p,Ae _⟩) (fun i σ ys H hi p=>⟨xs,xs[i],f _ _ _ _ p,by simp[hi]⟩) (fun i σ ys H x H' hi hy p y=>?_) hd;obtain⟨e,y⟩:=y;subst e;exact l i σ ys _ x (y xs (f _ _ _ _ p)) hi hy p
def nu{lo:Int}{n:Nat}(a:Nat->St->List V->Hp->Prop)(f:a 0 σ [] (upd H1 D (.lst [])))(h:∀i σ ys H,i<n->ys.length<=i->a i σ ys H->g (.int (lo+i)) σ H fun c j=>tc c j fun b d=>if b=true then te c d (fE n a D i c) else c5 n a i c d)(hd:∀σ ys H,a n σ ys H->Q (.ref D) H):cm (eY lo n) g tc te σ H1 D Q:=by
 refine rg n a f (fun σ ys H p=>Ae _) (fun i σ ys H hi p=>hi) (fun i σ ys H x H' hi hy p y=>?_) hd;obtain⟨e,y⟩:=y;subst e y;exact h i σ ys _ hi hy p
def MX{e f:Addr}{ys:List V}(a:Nat->St->List V->Hp->Prop)(q:a 0 σ [] (upd H1 D (.lst [])))(c:∀i σ zs H,a i σ zs H->SqT K H e xs/\SqT K H f ys)(r:∀i σ zs H p x y,xs[i]?=some x->ys[i]?=some y->i<min xs.length ys.length->zs.length<=i->a i σ zs H->H p=none->g (.ref p) σ (upd H p (.tup [x,y])) fun d s=>tc d s fun b h=>if b=true then te d h (fE (min xs.length ys.length) a D i d) else c5 (min xs.length ys.length) a i d h)(hd:∀σ zs H,a (min xs.length ys.length) σ zs H->Q (.ref D) H):cm (Bv K e f) g tc te σ H1 D Q:=by
 refine rg (min xs.length ys.length) a q (fun σ zs H p=>⟨xs,ys,(c _ _ _ _ p).1,(c _ _ _ _ p).2,rfl⟩) (fun i σ zs H hi p=>⟨xs,ys,(c _ _ _ _ p).1,(c _ _ _ _ p).2,hi⟩) (fun i σ zs H v H' hi hy p y=>?_) hd;obtain⟨pp,x,j,rfl,hp,rfl,l,o⟩:=y;exact r i σ zs H pp x j (l xs (c _ _ _ _ p).1) (o ys (c _ _ _ _ p).2) hi hy p hp
end
end L2
end
section
namespace Dk
open PySem PySem.Spec PyProof.Rows
def IsD(h:Heap)(d:Addr)(es:Array DictEntry)(ep:Nat):Prop:=∃o,h.get? d=some o/\o.ExactDict/\o.data=.dict es ep
def IsD.at{h h':Heap}{d:Addr}{es:Array DictEntry}{ep:Nat}(x:IsD h d es ep)(k:∀o,h.get? d=some o->h'.get? d=some o):IsD h' d es ep:=let ⟨o,ho,r⟩:=x;⟨o,k o ho,r⟩
def IsD.lt{h:Heap}{d:Addr}{es:Array DictEntry}{ep:Nat}(x:IsD h d es ep):d<h.objs.size:=let ⟨_,ho,_⟩:=x;Ar ho
section
variable{prog:Program}{w:World}{A:Around}{E:Ω}{s:Shared}{it d:Addr}{i ep:Nat}{es:Array DictEntry}
def IsD.typeIs(x:IsD s.heap d es ep):s.TypeIs (.ref d) "dict":=let ⟨o,ho,r⟩:=x;⟨o,ho,r.1.1⟩
def iter{Q:Ω}(hd:(d==sysModules)=false)(e:IsD s.heap d es ep)(f:Q (.ref s⁻¹) {s with heap:=s.heap.push {cls:=.type "dict_keyiterator",data:=.fields #[.ref d,.int 0 0,.int es.size 0,.int ep 0]}}):wpAny (model prog w) A (pyIter (.ref d)) Q E s:=by
 have a:=e.typeIs;obtain⟨o,b,hc,c⟩:=id e;refine wpAny_pyIter_slot a PySem.F.slot_dict_iter (wpAny_call_entry PySem.F.slot_dict_iter a PySem.F.entry_dict_iter ?_ (PySem.F.args_dict_iter_1 _));unfold Builtin.«dict.__iter__»;refine Ad ?_;unfold Builtin.Dict.dictSlotNone;refine Ad (wpAny_notOrdered_dict a ?_);show wpAny _ _ (pure (Value.ref d)) _ _ s;refine Ao ?_;show wpAny _ _ (Builtin.Dict.showsAll d >>= _) _ _ s;unfold Builtin.Dict.showsAll;rw[if_neg (by rw[hd];exact Aw)];refine Ad (Ao ?_);refine Ad (wpAny_dictEntries b c ?_);refine Ad (wpAny_dictEpoch b c ?_);refine Ad (wpAny_newObj_type (Ao ⟨_,rfl,"dict_keyiterator",_,⟨_,AK _ rfl,rfl⟩,PySem.F.slot_dict_keyiterator_next.lookup,?_⟩))
 simpa[rawInt] using f
def item{Q:Option Value->Shared->Prop}(a:s.heap.IsKeyIter it d i es.size ep)(h:IsD s.heap d es ep)(hx:i<es.size)(j:∀h',h'.IsKeyIter it d (i+1) es.size ep->Heap.SameBut it s.heap h'->Q (some es[i].key) {s with heap:=h'}):wpAny (model prog w) A (pyNext (.ref it)) Q E s:=by
 obtain⟨o,b,hc,hd⟩:=id a;obtain⟨l,c,p,e⟩:=id h;unfold pyNext;refine Ad (wpAny_attempt (wpAny_callSpecial?_slot (name:=Str.ofString "__next__") a.typeIs PySem.F.slot_dict_keyiterator_next
  (wpAny_call_entry PySem.F.slot_dict_keyiterator_next a.typeIs PySem.F.entry_dict_keyiterator_next ?_ (PySem.F.args_dict_keyiterator_next_1 _))))
 refine Ad (Ao ?_);refine Ad ?_;refine Ad ?_
 first|refine Ad (wpAny_typeNameOfWhole_keyiter a.typeIs (Ao ?_))|refine Ad (wpAny_typeNameOf_keyiter a.typeIs (Ao ?_))
 refine Ad (wpAny_fieldsOf b hd ?_);have g:Builtin.Dict_items.ownsTuple "dict_keyiterator"=false:=ξ
 simp only[g,Bool.false_eq_true,if_false];show wpAny _ _ (if(Value.ref d==Value.none)=true then _ else _) _ _ s;rw[if_neg (show ¬((Value.ref d==Value.none)=true) from Aw)];refine Ad (Ao ?_);refine Ad (wpAny_dictEntries c e ?_);rw[if_neg (by simp)];refine Ad (Ao ?_);refine Ad (wpAny_dictEpoch c e ?_);rw[if_neg (by simp)];refine Ao ?_;simp only[show ¬((i:Int)<0) from ω,if_false,Int.toNat_natCast,Array.getElem?_eq_getElem hx];refine Ad ?_
 first|refine Ad (wpAny_typeNameOfWhole_keyiter a.typeIs (Ao ?_))|refine Ad (wpAny_typeNameOf_keyiter a.typeIs (Ao ?_))
 refine Ad (wpAny_isOneOf_keyiter a.typeIs ?_);show wpAny _ _ (setField (.ref it) 1 (rawInt ((i:Int)+1)) >>= _) _ _ s;refine Ad (wpAny_setField b hd (by simp) ?_);have f:(s.heap.update it (Obj.mapFields (·.setIfInBounds 1 (rawInt ((i:Int)+1))))).IsKeyIter it d (i+1) es.size ep:=
  ⟨_,Heap.get?_update_self _ b (Obj.isFreed_of_fields (Obj.data_mapFields hd _)),(Obj.cls_mapFields ..).trans hc,by rw[Obj.data_mapFields hd];simp[rawInt]⟩
 refine Ad (wpAny_holding ?_);refine Ad (wpAny_isOneOf_keyiter (s:={s with heap:=s.heap.update it (Obj.mapFields (·.setIfInBounds 1 (rawInt ((i:Int)+1))))}) f.typeIs ?_);show wpAny _ _ (pure es[i].key) _ _ _;exact Ao (Ao ⟨_,rfl,Ao (j _ f (Heap.SameBut.update ..))⟩)
def done{Q:Option Value->Shared->Prop}(i:A.handled=none)(c:s.heap.IsKeyIter it d es.size es.size ep)(j:IsD s.heap d es ep)(l:∀h',Heap.ExtBut it s.heap h'->Q none {s with heap:=h'}):wpAny (model prog w) A (pyNext (.ref it)) Q E s:=by
 obtain⟨o,e,hc,hd⟩:=id c;obtain⟨p,f,q,g⟩:=id j;unfold pyNext;refine Ad (wpAny_attempt (wpAny_callSpecial?_slot (name:=Str.ofString "__next__") c.typeIs PySem.F.slot_dict_keyiterator_next
  (wpAny_call_entry PySem.F.slot_dict_keyiterator_next c.typeIs PySem.F.entry_dict_keyiterator_next ?_ (PySem.F.args_dict_keyiterator_next_1 _))))
 refine Ad (Ao ?_);refine Ad ?_;refine Ad ?_
 first|refine Ad (wpAny_typeNameOfWhole_keyiter c.typeIs (Ao ?_))|refine Ad (wpAny_typeNameOf_keyiter c.typeIs (Ao ?_))
 refine Ad (wpAny_fieldsOf e hd ?_);have h:Builtin.Dict_items.ownsTuple "dict_keyiterator"=false:=ξ
 simp only[h,Bool.false_eq_true,if_false];show wpAny _ _ (if(Value.ref d==Value.none)=true then _ else _) _ _ s;rw[if_neg (show ¬((Value.ref d==Value.none)=true) from Aw)];refine Ad (Ao ?_);refine Ad (wpAny_dictEntries f g ?_);rw[if_neg (by simp)];refine Ad (Ao ?_);refine Ad (wpAny_dictEpoch f g ?_);rw[if_neg (by simp)];refine Ao ?_;simp only[show ¬((es.size:Int)<0) from ω,if_false,Int.toNat_natCast,Array.getElem?_eq_none (Ae es.size)];refine Ad ?_
 first|refine Ad (wpAny_typeNameOfWhole_keyiter c.typeIs (Ao ?_))|refine Ad (wpAny_typeNameOf_keyiter c.typeIs (Ao ?_))
 show wpAny _ _ (setField (.ref it) 0 .none >>= _) _ _ s;refine Ad (wpAny_setField e hd (by simp) ?_);show wpAny _ _ (newExc (.type "StopIteration") [] >>= _) _ _ _;refine Ad ?_;simp only[newExc,newTuple];refine Ad (wpAny_newObj_type ?_ (by size_fits));refine Ad (m:=firstArgMember _ _) (wpAny_of_eq (a:=Value.none) (by first|rfl|(simp only[firstArgMember];rfl)) ?_);refine wpAny_newObj_type ?_ (by size_fits);simp only[raiseNew];refine Ad (wpAny_handled ?_);rw[show A.in1.handled=none from i];refine Ad (Ao (wpAny_throw ?_));refine Ad (wpAny_isInstance (T:="StopIteration") (b:=true) ⟨_,AK _ rfl,rfl⟩ isSubtype_stop ?_);exact Ao (l _ (((Heap.SameBut.update ..).extBut.push _).push _))
def walks(l:A.handled=none)(I d:Addr)(c:d≠I)(es:Array DictEntry)(ep:Nat):Walks prog w A I [I,d] [I] es.size (fun i v=>∃e,es[i]?=some e/\v=e.key) (fun i h=>h.IsKeyIter I d i es.size ep/\IsD h d es ep) where
 sub:=fun b hb=>by simp at hb ⊢;exact .inl hb
 frame:=fun i h h' st k=>⟨let ⟨o,ho,r⟩:=st.1;⟨o,k I (by simp) o ho,r⟩,st.2.at fun o e=>k d (by simp) o e⟩
 item:=fun i s Q E hi st a=>item st.1 st.2 hi fun h' g f=>a _ h' s.toks ⟨es[i],by simp[hi],rfl⟩ ⟨g,st.2.at fun o e=>(f.2 d c).trans e⟩ fun b o hb e=>(f.2 b (fun z=>hb (by simp[z]))).trans e
 done:=fun s Q E st a=>done l st.1 st.2 fun h' j=>a h' s.toks fun b o hb e=>j b o (fun z=>hb (by simp[z])) e
 self:=fun i s Q E st a=>wpAny_pyIter_keyiter st.1 a
def src(lo:(d==sysModules)=false):PySem.W.KdlSrc prog w "dict" d d es.size (fun i v=>∃e,es[i]?=some e/\v=e.key) (fun h=>IsD h d es ep) where
 type:=fun _ a=>a.typeIs
 there:=fun _ a=>⟨a.lt,a.lt⟩
 keep:=fun _ _ a hk=>a.at fun o e=>hk d (.inl rfl) o e
 notList:=ξ
 notTuple:=ξ
 hint:=fun _ _ _ _ a hq=>PySem.W.kdl_hint_dict a.typeIs hq
 iter:=fun _ s b a=>⟨_,_,(fun _ _ hq=>iter lo a hq),walks b _ d (Az a.lt) es ep,⟨⟨_,AK _ rfl,rfl,rfl⟩,a.at fun o e=>Ai _ e⟩⟩
end
end Dk
namespace L2
open PySem PySem.Spec PyProof.Rows
section
variable{X:Cx}
def MY{P:Program}{w:World}{k:Key}{u:Value}(h:(zV P w).is k u=true):RelV (kV k) u:=by
 rcases aO h with ⟨i,t,rfl,rfl⟩|⟨x,t,rfl,rfl⟩
 ·exact⟨t,rfl⟩
 ·exact⟨t,rfl⟩
end
end L2
end
section
namespace L2
open PySem PySem.Spec PyProof.Rows
def Tp(H:Hp)(a:Addr)(ps:List Int):Prop:=H a=some (.tup (ps.map V.int))
abbrev Tps(H:Hp)(as:List Addr)(bT:Ξ):Prop:=Paired (fun a ps=>Tp H a ps) as bT
def Same.tp{H H':Hp}{a:Addr}{ps:List Int}(e:Same H H')(h:Tp H a ps):Tp H' a ps:=e _ _ h
def Same.new{H:Hp}{a:Addr}{o:HO}(h:H a=none):Same H (upd H a o):=fun b u e=>by rw[ao (zk e h)];exact e
def Same.then{H H1:Hp}{a:Addr}{o:HO}(e:Same H H1)(h:H a=none):Same H (upd H1 a o):=fun b u q=>by rw[ao (zk q h)];exact e b u q
def Tps.length{H:Hp}{a:List Addr}{b:Ξ}(h:Tps H a b):a.length=b.length:=Paired.length h
def Tps.get{H:Hp}:∀{b:List Addr}{c:Ξ}{i:Nat}{a:Addr},Tps H b c->b[i]?=some a->∃ps,c[i]?=some ps/\Tp H a ps
 |_,_,_,_,.nil,e=>by simp at e
 |_,_,0,_,.cons r _,e=>by simp at e;subst e;exact⟨_,rfl,r⟩
 |_,_,i+1,a,.cons _ t,e=>by
  obtain⟨u,h1,h2⟩:=Tps.get (i:=i) (a:=a) t (by simpa using e);exact⟨u,by simpa using h1,h2⟩
def Tps.snoc{H:Hp}{b:List Addr}{c:Ξ}{a:Addr}{ps:List Int}(h:Tps H b c)(q:Tp H a ps):Tps H (b++[a]) (c++[ps]):=by
 induction h with
 |nil=>exact .cons q .nil
 |cons r t ih=>exact .cons r ih
def Tps.append{H:Hp}{a bs:List Addr}{b c:Ξ}(h:Tps H a b)(q:Tps H bs c):Tps H (a++bs) (b++c):=by
 induction h with
 |nil=>exact q
 |cons r t ih=>exact .cons r ih
def Tps.take{H:Hp}:∀{a:List Addr}{b:Ξ}(n:Nat),Tps H a b->Tps H (a.take n) (b.take n)
 |_,_,0,_=>.nil
 |_,_,_+1,.nil=>.nil
 |_,_,n+1,.cons r t=>.cons r (Tps.take n t)
def Tps.drop{H:Hp}:∀{a:List Addr}{b:Ξ}(n:Nat),Tps H a b->Tps H (a.drop n) (b.drop n)
 |_,_,0,r=>r
 |_,_,_+1,.nil=>.nil
 |_,_,n+1,.cons _ t=>Tps.drop n t
section
variable{X:Cx}
def MZ:fj X (.builtin "isinstance") (fun xs H Q=>∃n,xs=[.int n,.ty "int"]/\Q (.bl true) H):=by
 intro aa s σ H xs us Q I r h;obtain⟨n,rfl,q⟩:=h;obtain⟨u,c,rfl,a,b⟩:=vals2 r;cases b;exact Eb I a (.int n) (by first|rfl|kernel_rfl|decide +kernel) fun tk=>⟨.bl true,H,I.tok _,rfl,q⟩
def M0:fj X (.builtin "isinstance") (fun xs H Q=>∃n,xs=[.int n,.ty "bool"]/\Q (.bl false) H):=by
 intro aa s σ H xs us Q I r h;obtain⟨n,rfl,q⟩:=h;obtain⟨u,c,rfl,a,b⟩:=vals2 r;cases b;exact Eb I a (.int n) (by first|rfl|kernel_rfl|decide +kernel) fun tk=>⟨.bl false,H,I.tok _,rfl,q⟩
def M4:fj X (.builtin "isinstance") (fun xs H Q=>∃a ys,xs=[.ref a,.ty "list"]/\H a=some (.lst ys)/\Q (.bl true) H):=by
 intro aa s σ H xs us Q I r h;obtain⟨a,ys,rfl,b,q⟩:=h;obtain⟨u,e,rfl,c,d⟩:=vals2 r;cases d;exact Eb I c (.lst b) (by first|rfl|kernel_rfl|decide +kernel) fun tk=>⟨.bl true,H,I.tok _,rfl,q⟩
abbrev zlL:V->List V->Hp->VK->Prop:=fun x vs H Q=>∃(l:Addr)(ys:List V)(y:V),x=.ref l/\vs=[y]/\H l=some (.lst ys)/\ys.all gz=true/\gz y=true/\Q (.int (ys.countP fun z=>fB z y)) H
abbrev zms:V->List V->Hp->VK->Prop:=fun x vs H Q=>∃(l:Addr)(ys:List V)(y:V)(j:Nat),x=.ref l/\vs=[y]/\H l=some (.lst ys)/\ys.all gz=true/\gz y=true/\j<1000/\((ys[j]?).map fun z=>fB z y)=some true/\(∀m,m<j->((ys[m]?).map fun z=>fB z y)=some false)/\Q (.int j) H
def M5{x:V}{xs:List V}{us:List Value}(h:Vals xs us)(f:xs.all gz=true):us.countP (iZ x)=xs.countP fun y=>fB y x:=by
 induction h with
 |nil=>rfl
 |cons r t ih=>
  rw[List.all_cons,AU] at f;rw[List.countP_cons,List.countP_cons,Ee r f.1,ih f.2]
def HF{x:V}{xs:List V}{us:List Value}(h:Vals xs us)(f:xs.all gz=true):∀m:Nat,(us[m]?).map (iZ x)=(xs[m]?).map fun y=>fB y x:=by
 induction h with
 |nil=>intro m;simp
 |cons r t ih=>
  rw[List.all_cons,AU] at f;intro m;cases m with
  |zero=>simp[Ee r f.1]
  |succ m=>simpa using ih f.2 m
def M6:Eg X "list.count" zlL:=by
 intro aa s σ H x vs v us Q I b d h;obtain⟨l,ys,y,rfl,rfl,g,a,i,q⟩:=h;cases b;obtain⟨u,rfl,j⟩:=d.one;obtain⟨z,ad,c,r,p,e⟩:=I.lstM g;refine call_meets F.slot_list_count ⟨_,e,rfl⟩ F.entry_list_count (F.args_list_count_2 _ _) (SeqAt.list_countAt l ad.toArray c none #[] u (iZ y)) ⟨e,fun f hy=>?_,?_⟩
 ·exact Ef j i r a f (by simpa using hy)
 ·have o:ad.toArray.toList.countP (iZ y)=ys.countP fun z=>fB z y:=M5 r a
  exact⟨.int (ys.countP fun z=>fB z y),H,I.tok _,⟨_,by rw[<-o]⟩,q⟩
def M7:Eg X "list.index" zms:=by
 intro aa s σ H x vs v us Q I g i h;obtain⟨l,ys,y,j,rfl,rfl,w,b,A,D,h1,h2,q⟩:=h;cases g;obtain⟨u,rfl,C⟩:=i.one;obtain⟨z,ad,c,r,E,e⟩:=I.lstM w;have g1:=(HF (x:=y) r b j).trans h1;have f:j<ad.toArray.size:=by
  rcases Bh j ad.length with q|q
  ·simpa using q
  ·rw[List.getElem?_eq_none q] at g1;cases g1
 have get:∀(m:Nat)(a:m<ad.toArray.size),(ad[m]?).map (iZ y)=some (iZ y ad.toArray[m]):=fun m a=>by
  rw[Ac (by simpa using a)];rfl
 have d:(j:Int)<2 ^ 63-1:=by
  have h1:(j:Int)<1000:=ω
  have h2:(1000:Int)<2 ^ 63-1:=ξ
  (first|lia|omega)
 refine call_meets F.slot_list_index ⟨_,e,rfl⟩ F.entry_list_index (F.args_list_index_2 _ _) (SeqAt.list_indexAt l ad.toArray c none #[] u (iZ y) j f d ?_ ?_) ⟨e,fun o hy=>?_,?_⟩
 ·exact AS ((get j f).symm.trans g1)
 ·intro m a p
  exact AS ((get m a).symm.trans ((HF (x:=y) r b m).trans (h2 m p)))
 ·exact Ef C A r b o (by simpa using hy)
 ·exact⟨.int j,H,I.tok _,⟨_,rfl⟩,q⟩
end
def M8{K:Af}{C S:Addr}(F:PySem.W.excIn K C kL "ValueError.__new__"=true)(G:PySem.W.excIn K S kL "ValueError.__new__"=true)(m:PySem.W.mroIn K C (.ref S)=some true):i9 K C S:=by
 intro h X;obtain⟨bm,N,nm,e,bs,hdct,sn,sub,ab,col,dd,k0,k1,k2,k3,k5,H,_,I,d⟩:=Et X F;obtain⟨f,N',i,j,l,o,p,q,r,s,u,v,w,x,y,A,L,_,D,E⟩:=Et X G;refine⟨nm,e,N,bs,bm,hdct,sn,sub,ab,col,dd,k0,k1,k2,k3,k5,_,i,j,N',l,f,o,p,q,r,s,u,v,w,x,y,A,_,(d h X).1,(E h X).1,D _ ξ,?_⟩;have g:=(d h X).1;unfold PySem.W.mroIn at m;obtain⟨J,a,b⟩:=Option.bind_eq_some_iff.mp m;unfold PySem.W.clsIn at a;split at a
 ·rename_i c' d' cd' fJ ho
  cases a;have z:=(X _ _ ho).symm.trans g;injection z with z
  have c:=congrArg Obj.data z;injection c with c
  subst c;split at b
  ·cases b
  ·exact AS b
 ·cases a
def M9{K:Af}{C:Addr}{bm:List Value}{n:String}(q:PySem.W.excIn K C bm n=true):(PySem.W.clsIn K C).isSome=true:=by
 unfold PySem.W.excIn at q;unfold PySem.W.clsIn;split at q
 ·rename_i ho;rw[ho];rfl
 ·cases q
end L2
end
section
namespace Tim
open PySem PyProof.Rows
def R(ρ:Keyed->Int)(xs:Array Keyed)(i:Nat):Int:=match xs[i]? with
 |some p=>ρ p
 |none=>0
def ri{ρ:Keyed->Int}{xs ys:Array Keyed}{i j:Nat}(h:xs[i]?=ys[j]?):R ρ xs i=R ρ ys j:=by unfold R;rw[h]
def i_{ρ:Keyed->Int}{xs:Array Keyed}{i:Nat}{p:Keyed}(h:xs[i]?=some p):R ρ xs i=ρ p:=by unfold R;rw[h]
def cn(ρ:Keyed->Int)(xs:Array Keyed)(lo hi:Nat):Prop:=∀i j,lo<=i->i<=j->j<hi->R ρ xs i<=R ρ xs j
def nC(ρ:Keyed->Int)(xs:Array Keyed)(lo hi:Nat):Prop:=∀i j,lo<=i->i<=j->j<hi->R ρ xs j<=R ρ xs i
def zU{ρ:Keyed->Int}{xs:Array Keyed}{i j:Nat}(a:j<=xs.size)(k:Nat):R ρ (mirror xs i j ((j-i) / 2)) k=if i<=k/\k<j then R ρ xs (i+j-1-k) else R ρ xs k:=by
 have e:=getElem?_mirror_all (i:=i) a k
 by_cases h1:i<=k/\k<j
 ·rw[if_pos h1] at e ⊢;exact ri e
 ·rw[if_neg h1] at e ⊢;exact ri e
def zz{ρ:Keyed->Int}{xs:Array Keyed}{i j:Nat}(b:j<=xs.size)(a:∀k,i<=k->k<j->R ρ xs k=R ρ xs (j-1))(k:Nat):R ρ (mirror xs i j ((j-i) / 2)) k=R ρ xs k:=by
 rw[zU b];split
 ·rw[a _ ω ω,a k ω ω]
 ·rfl
def nD{ρ:Keyed->Int}{xs:Array Keyed}{src d:Nat}(a:src<xs.size)(hd:d<=src)(k:Nat):R ρ (bubble xs src d) k=if k=src-d then R ρ xs src else if src-d<k/\k<=src then R ρ xs (k-1) else R ρ xs k:=by
 have e:=getElem?_bubble a d hd k
 by_cases h1:k=src-d
 ·rw[if_pos h1] at e ⊢;exact ri e
 ·rw[if_neg h1] at e ⊢
  by_cases h2:src-d<k/\k<=src
  ·rw[if_pos h2] at e ⊢;exact ri e
  ·rw[if_neg h2] at e ⊢;exact ri e
structure im(prog:Program)(w:World)(A:Around)(s:Shared)(κ:SortKind)(a₀:Array Keyed)(ρ:Keyed->Int):Prop where
 lt:∀x y,x∈a₀.toList->y∈a₀.toList->∀(Q:Bool->Shared->Prop)(E:Ω),Q (decide (ρ x<ρ y)) s->wpAny (model prog w) A (keyLt' κ x.1 y.1) Q E s
structure B(κ:SortKind)(a₀:Array Keyed)(st:SortSt):Prop where
 perm:(arrOf st).Perm a₀
 kind:kindOf st=κ
 failed:failedOf st=none
def B.size{κ:SortKind}{a₀:Array Keyed}{st:SortSt}(h:B κ a₀ st):(arrOf st).size=a₀.size:=h.perm.size_eq
def B.setArr{κ:SortKind}{a₀:Array Keyed}{st:SortSt}(h:B κ a₀ st){xs:Array Keyed}(hp:xs.Perm (arrOf st)):B κ a₀ (setArr st xs):=⟨hp.trans h.perm,h.kind,h.failed⟩
def B.mem{κ:SortKind}{a₀:Array Keyed}{st:SortSt}(h:B κ a₀ st){p:Keyed}(hp:p∈(arrOf st).toList):p∈a₀.toList:=(Array.perm_iff_toList_perm.mp h.perm).mem_iff.mp hp
def HG{xs:Array Keyed}{i:Nat}(hi:i<xs.size):∃p,xs[i]?=some p/\p∈xs.toList:=⟨xs[i],getElem?_pos _ i hi,by simp⟩
structure Pre(lo:Nat)(st ac:SortSt):Prop where
 arr:∀k,k<lo->(arrOf ac)[k]?=(arrOf st)[k]?
 pend:pendingOf ac=pendingOf st
def Pre.refl{lo:Nat}{st:SortSt}:Pre lo st st:=⟨fun _ _=>rfl,rfl⟩
def Pre.trans{lo:Nat}{a b c:SortSt}(x:Pre lo a b)(y:Pre lo b c):Pre lo a c:=⟨fun k h=>(y.arr k h).trans (x.arr k h),y.pend.trans x.pend⟩
def Pre.mir{lo i j:Nat}{st:SortSt}(a:j<=(arrOf st).size)(hi:lo<=i):Pre lo st (setArr st (mirror (arrOf st) i j ((j-i) / 2))):=
 ⟨fun k h=>by show(mirror _ _ _ _)[k]?=_;rw[getElem?_mirror_all a,if_neg ω],rfl⟩
def Pre.bub{lo src d:Nat}{st:SortSt}(a:src<(arrOf st).size)(hd:d<=src)(b:lo<=src-d):Pre lo st (setArr st (bubble (arrOf st) src d)):=
 ⟨fun k h=>by show(bubble _ _ _)[k]?=_;rw[getElem?_bubble a d hd,if_neg ω,if_neg ω],rfl⟩
section
variable{prog:Program}{w:World}{A:Around}{E:Ω}{s:Shared}{κ:SortKind}{a₀:Array Keyed}{ρ:Keyed->Int}
def M_(C:im prog w A s κ a₀ ρ){st:SortSt}(a:B κ a₀ st){x y:Keyed}(hx:x∈a₀.toList)(hy:y∈a₀.toList){Q:Option Bool->SortSt->Prop}(h:Q (some (decide (ρ x<ρ y))) st):wpS (model prog w) A E s (lt' x y) Q st:=by
 rw[lt'_eq];refine wpS_bind (wpS_get ?_);rw[a.kind];refine wpS_bind (wpS_lift (wpAny_attempt (C.lt x y hx hy _ _ ⟨rfl,?_⟩)));exact wpS_pure h
def HH{st:SortSt}{xs:Array Keyed}{i:Nat}{p:Keyed}(h:xs[i]?=some p){Q:Keyed->SortSt->Prop}(hq:Q p st):wpS (model prog w) A E s (elem' xs i) Q st:=by
 rw[elem'_eq,h];exact wpS_pure hq
def rj(C:im prog w A s κ a₀ ρ){st:SortSt}(a:B κ a₀ st){i j:Nat}(hi:i<a₀.size)(b:j<a₀.size){Q:Option Bool->SortSt->Prop}(h:Q (some (decide (R ρ (arrOf st) i<R ρ (arrOf st) j))) st):wpS (model prog w) A E s (ltAt' i j) Q st:=by
 obtain⟨p,e1,m1⟩:=HG (xs:=arrOf st) (i:=i) (by rw[a.size];exact hi);obtain⟨q,e2,m2⟩:=HG (xs:=arrOf st) (i:=j) (by rw[a.size];exact b);rw[ltAt'_eq];refine wpS_bind (wpS_get ?_);show wpS _ _ _ _ (do let x <-elem' (arrOf st) i;let y <-elem' (arrOf st) j;lt' x y) Q st;refine wpS_bind (HH e1 (wpS_bind (HH e2 (M_ C a (a.mem m1) (a.mem m2) ?_))));rw[i_ e1,i_ e2] at h;exact h
def asc(lo a b:Nat):StateT SortSt Sem AscSt:=
 forIn [a:b] ((none,a):AscSt) fun _ __s=>do
  let __x <-ltAt' (lo+__s.snd) (lo+__s.snd-1)
  match __x with
  |some smaller=>if smaller=true then pure (ForInStep.done (none,__s.snd)) else pure (ForInStep.yield (none,__s.snd+1))
  |_=>pure (ForInStep.done (some none,__s.snd))
def tl3(lo n a:Nat):StateT SortSt Sem (Option Nat):=do
 reverseSlice' lo (lo+n)
 let __s <-asc lo n a
 match __s.fst with
 |some r=>pure r
 |none=>pure (some __s.snd)
def BI(lo n a:Nat):StateT SortSt Sem DescSt:=
 forIn [n:a] ((none,n,0):DescSt) fun _ __s=>do
  let __x <-ltAt' (lo+__s.snd.fst) (lo+__s.snd.fst-1)
  match __x with
  |some smaller=>
   if smaller=true then
    if __s.snd.snd>0 then do
     reverseSlice' (lo+__s.snd.fst-(__s.snd.snd+1)) (lo+__s.snd.fst)
     pure (ForInStep.yield (none,__s.snd.fst+1,0))
    else pure (ForInStep.yield (none,__s.snd.fst+1,0))
   else do
    let __x <-ltAt' (lo+__s.snd.fst-1) (lo+__s.snd.fst)
    match __x with
    |some larger=>
     if larger=true then pure (ForInStep.done (none,__s.snd.fst,__s.snd.snd))
     else pure (ForInStep.yield (none,__s.snd.fst+1,__s.snd.snd+1))
    |_=>pure (ForInStep.done (some none,__s.snd.fst,__s.snd.snd))
  |_=>pure (ForInStep.done (some none,__s.snd.fst,__s.snd.snd))
def ro(lo n a:Nat):StateT SortSt Sem (Option Nat):=do
 liftM (rule "list.sort.descending-run")
 let __s <-BI lo (n+1) a
 match __s.fst with
 |some r=>pure r
 |none=>
  if __s.snd.snd>0 then do
   reverseSlice' (lo+__s.snd.fst-(__s.snd.snd+1)) (lo+__s.snd.fst)
   tl3 lo __s.snd.fst a
  else tl3 lo __s.snd.fst a
def a0{b c:Type}{m:StateT SortSt Sem b}{f g:b->StateT SortSt Sem c}(h:∀a,f a=g a):(m >>= f)=(m >>= g):=by
 have e:f=g:=funext h;rw[e]
def M'(lo d:Nat):countRun' lo d=(do
  let __s <-asc lo 1 d
  match __s.fst with
  |some r=>pure r
  |none=>
   if(__s.snd==d)=true then pure (some __s.snd)
   else if __s.snd>1 then do
    let __x <-ltAt' lo (lo+__s.snd-1)
    match __x with
    |some rose=>if rose=true then pure (some __s.snd) else do
      reverseSlice' lo (lo+__s.snd)
      ro lo __s.snd d
    |_=>pure none
   else ro lo __s.snd d):=by
 rw[countRun'_eq];unfold ro tl3 BI asc;refine a0 fun g=>?_;obtain⟨r,n⟩:=g;cases r with
 |some r=>rfl
 |none=>
  dsimp only;split
  ·rfl
  ·split
   ·refine a0 fun x=>?_
    cases x with
    |none=>rfl
    |some rose=>
     dsimp only;split
     ·rfl
     ·refine a0 fun _r=>a0 fun _u=>a0 fun e=>?_
      obtain⟨c,n2,h⟩:=e;cases c with
      |some c=>rfl
      |none=>
       dsimp only;split
       ·refine a0 fun _v=>a0 fun _w=>a0 fun a=>?_
        obtain⟨b,f⟩:=a;cases b<;>rfl
       ·refine a0 fun _w=>a0 fun a=>?_
        obtain⟨b,f⟩:=a;cases b<;>rfl
   ·refine a0 fun _u=>a0 fun e=>?_
    obtain⟨c,n2,h⟩:=e;cases c with
    |some c=>rfl
    |none=>
     dsimp only;split
     ·refine a0 fun _v=>a0 fun _w=>a0 fun a=>?_
      obtain⟨b,f⟩:=a;cases b<;>rfl
     ·refine a0 fun _w=>a0 fun a=>?_
      obtain⟨b,f⟩:=a;cases b<;>rfl
def HI(C:im prog w A s κ a₀ ρ){st:SortSt}{lo a d:Nat}{Q:AscSt->SortSt->Prop}(hn:lo+d<=a₀.size)(F:1<=a)(u:a<=d)(v:B κ a₀ st)(y:cn ρ (arrOf st) lo (lo+a))(h:∀n,a<=n->n<=d->cn ρ (arrOf st) lo (lo+n)->(n=d\/R ρ (arrOf st) (lo+n)<R ρ (arrOf st) (lo+n-1))->Q (none,n) st):wpS (model prog w) A E s (asc lo a d) Q st:=by
 unfold asc;refine wpS_forRange (I:=fun x c f=>f=st/\c=(none,x)/\cn ρ (arrOf st) lo (lo+x)) ?step ?fin ⟨rfl,rfl,y⟩
 case fin=>
  rintro c f ⟨rfl,rfl,e⟩;rw[show max a d=d from ω] at e ⊢;exact h d u (Ae _) e (.inl rfl)
 case step=>
  rintro x c f r D ⟨rfl,rfl,e⟩;dsimp only;refine wpS_bind (rj C v ω ω ?_)
  by_cases b:R ρ (arrOf f) (lo+x)<R ρ (arrOf f) (lo+x-1)
  ·simp only[b,decide_true,if_true]
   exact wpS_pure (h x r ω e (.inr b))
  ·simp only[b,decide_false,Bool.false_eq_true,if_false]
   refine wpS_pure ⟨rfl,rfl,fun i j p q z=>?_⟩
   by_cases l:j<lo+x
   ·exact e i j p q l
   ·have g:j=lo+x:=ω
    subst g
    by_cases o:i=lo+x
    ·subst o;exact Int.le_refl _
    ·exact Int.le_trans (e i (lo+x-1) p ω ω) (Int.not_lt.mp b)
def BO{st:SortSt}{i j:Nat}{Q:Unit->SortSt->Prop}(h:Q () (setArr st (mirror (arrOf st) i j ((j-i) / 2)))):wpS (model prog w) A E s (reverseSlice' i j) Q st:=by
 rw[reverseSlice'_eq];exact wpS_modify h
end
def Tl(τ:Keyed->Int)(xs:Array Keyed)(m:Nat):Prop:=∀i j,i<j->m<=j->j<xs.size->R τ xs i<=R τ xs j
def St(ρ τ:Keyed->Int)(xs:Array Keyed)(lo hi:Nat):Prop:=∀i j,lo<=i->i<j->j<hi->R ρ xs i=R ρ xs j->R τ xs i<=R τ xs j
def As(ρ τ:Keyed->Int)(xs:Array Keyed)(lo hi:Nat):Prop:=∀i j,lo<=i->i<j->j<hi->R ρ xs i=R ρ xs j->R τ xs j<=R τ xs i
def Tl.mono{τ:Keyed->Int}{xs:Array Keyed}{m n:Nat}(h:Tl τ xs m)(d:m<=n):Tl τ xs n:=fun i j a b c=>h i j a ω c
def Na(xs:Array Keyed)(i j m:Nat):(mirror xs i j m).size=xs.size:=(mirror_perm xs i j m).size_eq
def Tl.mir{τ:Keyed->Int}{xs:Array Keyed}{a b m:Nat}(h:Tl τ xs m)(hb:b<=xs.size)(f:b<=m):Tl τ (mirror xs a b ((b-a) / 2)) m:=fun i j e d c=>by
 rw[Na] at c;rw[zU hb,zU hb,if_neg (show ¬(a<=j/\j<b) from ω)];split
 ·exact h _ _ ω d c
 ·exact h _ _ e d c
section
variable{prog:Program}{w:World}{A:Around}{E:Ω}{s:Shared}{κ:SortKind}{a₀:Array Keyed}{ρ τ:Keyed->Int}
abbrev kR(κ:SortKind)(a₀:Array Keyed)(ρ τ:Keyed->Int)(lo aj:Nat)(st:SortSt)(Q:Option Nat->SortSt->Prop):Prop:=
 ∀m ac,B κ a₀ ac->Pre lo st ac->1<=m->m<=aj->cn ρ (arrOf ac) lo (lo+m)->St ρ τ (arrOf ac) lo (lo+m)->Tl τ (arrOf ac) (lo+m)->Q (some m) ac
def HJ(C:im prog w A s κ a₀ ρ){st o:SortSt}{lo n c:Nat}{Q:Option Nat->SortSt->Prop}(hn:lo+c<=a₀.size)(h1:1<=n)(f:n<=c)(p:B κ a₀ st)(x:Pre lo o st)(y:nC ρ (arrOf st) lo (lo+n))(z:As ρ τ (arrOf st) lo (lo+n))(D:Tl τ (arrOf st) (lo+n))(h:kR κ a₀ ρ τ lo c o Q):wpS (model prog w) A E s (tl3 lo n c) Q st:=by
 unfold tl3;have hsz:lo+n<=(arrOf st).size:=by rw[p.size];(first|lia|omega)
 refine wpS_bind (BO ?_);have e:B κ a₀ (setArr st (mirror (arrOf st) lo (lo+n) ((lo+n-lo) / 2))):=p.setArr (mirror_perm _ _ _ _);have a:Tl τ (arrOf (setArr st (mirror (arrOf st) lo (lo+n) ((lo+n-lo) / 2)))) (lo+n):=D.mir hsz (Ae _);refine wpS_bind (HI C hn h1 f e ?_ fun m F q d _=>wpS_pure (h m _ e (x.trans (.mir hsz (Ae _))) ω q d (fun i j r l u v=>?_) (a.mono ω)))
 ·intro i j r l u
  show R ρ (mirror (arrOf st) lo (lo+n) ((lo+n-lo) / 2)) i<=R ρ (mirror (arrOf st) lo (lo+n) ((lo+n-lo) / 2)) j;rw[zU hsz,zU hsz,if_pos ω,if_pos ω];exact y _ _ ω ω ω
 ·by_cases g:lo+n<=j
  ·exact a i j l g (by rw[e.size];(first|lia|omega))
  ·have b:R ρ (mirror (arrOf st) lo (lo+n) ((lo+n-lo) / 2)) i=R ρ (mirror (arrOf st) lo (lo+n) ((lo+n-lo) / 2)) j:=v
   show R τ (mirror (arrOf st) lo (lo+n) ((lo+n-lo) / 2)) i<=R τ (mirror (arrOf st) lo (lo+n) ((lo+n-lo) / 2)) j;rw[zU hsz,zU hsz,if_pos ω,if_pos ω] at b;rw[zU hsz,zU hsz,if_pos ω,if_pos ω];exact z _ _ ω ω ω b.symm
structure Grp(ρ τ:Keyed->Int)(xs:Array Keyed)(lo x aJ:Nat):Prop where
 as:As ρ τ xs lo (lo+x-(aJ+1))
 inc:∀i j,lo+x-(aJ+1)<=i->i<j->j<lo+x->R τ xs i<=R τ xs j
 str:∀i,lo<=i->i<lo+x-(aJ+1)->R ρ xs (lo+x-1)<R ρ xs i
 tl:Tl τ xs (lo+x)
def Grp.turned{xs:Array Keyed}{lo x a:Nat}(g:Grp ρ τ xs lo x a)(hsz:lo+x<=xs.size)(hq:a+1<=x)(b:∀i,lo+x-(a+1)<=i->i<lo+x->R ρ xs i=R ρ xs (lo+x-1)):As ρ τ (mirror xs (lo+x-(a+1)) (lo+x) ((lo+x-(lo+x-(a+1))) / 2)) lo (lo+x):=fun i j e f h hr=>by
 rw[zz hsz b,zz hsz b] at hr;rw[zU hsz,zU hsz]
 by_cases c:j<lo+x-(a+1)
 ·rw[if_neg ω,if_neg ω];exact g.as i j e f c hr
 ·by_cases d:i<lo+x-(a+1)
  ·have:=g.str i e d
   rw[b j ω h] at hr;(first|lia|omega)
  ·rw[if_pos ω,if_pos ω]
   exact g.inc _ _ ω ω ω
def Grp.one{xs:Array Keyed}{lo x:Nat}(g:Grp ρ τ xs lo x 0):As ρ τ xs lo (lo+x):=fun i j c d e hr=>by
 by_cases b:j<lo+x-1
 ·exact g.as i j c d b hr
 ·have a:j=lo+x-1:=ω
  have:=g.str i c ω;rw[<-a] at this;(first|lia|omega)
def Nb(C:im prog w A s κ a₀ ρ){st L:SortSt}{lo n D:Nat}{Q:DescSt->SortSt->Prop}(hn:lo+D<=a₀.size)(h1:1<=n)(M:n<=D)(U:B κ a₀ st)(W:Pre lo L st)(X:nC ρ (arrOf st) lo (lo+n))(hg:Grp ρ τ (arrOf st) lo n 0)(h:∀m e b,B κ a₀ b->Pre lo L b->n<=m->m<=D->nC ρ (arrOf b) lo (lo+m)->e+1<=m->(∀i,lo+m-(e+1)<=i->i<lo+m->R ρ (arrOf b) i=R ρ (arrOf b) (lo+m-1))->Grp ρ τ (arrOf b) lo m e->Q (none,m,e) b):wpS (model prog w) A E s (BI lo n D) Q st:=by
 unfold BI;refine wpS_forRange (I:=fun x c b=>∃e,c=(none,x,e)/\B κ a₀ b/\Pre lo L b/\nC ρ (arrOf b) lo (lo+x)/\e+1<=x/\
   (∀i,lo+x-(e+1)<=i->i<lo+x->R ρ (arrOf b) i=R ρ (arrOf b) (lo+x-1))/\Grp ρ τ (arrOf b) lo x e) ?step ?fin ⟨0,rfl,U,W,X,ω,fun i h1 h2=>by congr 1;(first|lia|omega),hg⟩
 case fin=>
  rintro c b ⟨e,rfl,r,G,u,hq,v,g⟩;rw[show max n D=D from ω] at u hq v g ⊢;exact h D e b r G M (Ae _) u hq v g
 case step=>
  rintro x c b S Y ⟨e,rfl,r,G,u,hq,v,g⟩;dsimp only;have hsz:lo+x<=(arrOf b).size:=by rw[r.size];(first|lia|omega)
  refine wpS_bind (rj C r ω ω ?_)
  by_cases d:R ρ (arrOf b) (lo+x)<R ρ (arrOf b) (lo+x-1)
  ·simp only[d,decide_true,if_true]
   have l:∀xs:Array Keyed,(∀k,R ρ xs k=R ρ (arrOf b) k)->nC ρ xs lo (lo+(x+1)):=by
    intro xs hk i j H J O;rw[hk,hk]
    by_cases q:j<lo+x
    ·exact u i j H J q
    ·have z:j=lo+x:=ω
     subst z
     by_cases F:i=lo+x
     ·subst F;exact Int.le_refl _
     ·exact Int.le_trans (Int.le_of_lt d) (u i (lo+x-1) H ω ω)
   have o:∀xs:Array Keyed,(∀k,R ρ xs k=R ρ (arrOf b) k)->As ρ τ xs lo (lo+x)->Tl τ xs (lo+x)->Grp ρ τ xs lo (x+1) 0:=fun xs hk a t=>by
    refine⟨?_,fun i j h1 h2 P=>ω,fun i h1 h2=>?_,t.mono ω⟩
    ·rw[show lo+(x+1)-(0+1)=lo+x from ω];exact a
    ·rw[show lo+(x+1)-1=lo+x from ω,hk,hk]
     exact Int.lt_of_lt_of_le d (u i (lo+x-1) h1 ω ω)
   by_cases y:e>0
   ·rw[if_pos y]
    refine wpS_bind (BO (wpS_pure ⟨0,rfl,r.setArr (mirror_perm _ _ _ _),G.trans (.mir hsz ω),l _ (zz hsz v),ω,fun i h1 h2=>by congr 1;(first|lia|omega),o _ (zz hsz v) (g.turned hsz hq v) (g.tl.mir hsz (Ae _))⟩))
   ·rw[if_neg y]
    have T:e=0:=ω
    subst T;exact wpS_pure ⟨0,rfl,r,G,l _ (fun _=>rfl),ω,fun i h1 h2=>by congr 1;(first|lia|omega),o _ (fun _=>rfl) g.one g.tl⟩
  ·simp only[d,decide_false,Bool.false_eq_true,if_false]
   refine wpS_bind (rj C r ω ω ?_)
   by_cases f:R ρ (arrOf b) (lo+x-1)<R ρ (arrOf b) (lo+x)
   ·simp only[f,decide_true,if_true]
    exact wpS_pure (h x e b r G S ω u hq v g)
   ·simp only[f,decide_false,Bool.false_eq_true,if_false]
    have p:R ρ (arrOf b) (lo+x)=R ρ (arrOf b) (lo+x-1):=ω
    refine wpS_pure ⟨e+1,rfl,r,G,fun i j H J O=>?_,ω,fun i h1 h2=>?_,?_⟩
    ·by_cases q:j<lo+x
     ·exact u i j H J q
     ·have z:j=lo+x:=ω
      subst z
      by_cases F:i=lo+x
      ·subst F;exact Int.le_refl _
      ·rw[p];exact u i (lo+x-1) H ω ω
    ·rw[show lo+(x+1)-1=lo+x from ω]
     by_cases N:i=lo+x
     ·subst N;rfl
     ·rw[p];exact v i ω ω
    ·have hb:lo+(x+1)-(e+1+1)=lo+x-(e+1):=ω
     refine⟨by rw[hb];exact g.as,fun i j h1 h2 P=>?_,fun i h1 h2=>?_,g.tl.mono ω⟩
     ·by_cases q:j<lo+x
      ·exact g.inc i j ω h2 q
      ·exact g.tl i j h2 ω (by rw[r.size];(first|lia|omega))
     ·rw[show lo+(x+1)-1=lo+x from ω,p]
      exact g.str i h1 ω
def HK(C:im prog w A s κ a₀ ρ){st r:SortSt}{lo n b:Nat}{Q:Option Nat->SortSt->Prop}(hn:lo+b<=a₀.size)(f:n+1<=b)(z:B κ a₀ st)(D:Pre lo r st)(F:nC ρ (arrOf st) lo (lo+(n+1)))(hg:Grp ρ τ (arrOf st) lo (n+1) 0)(h:kR κ a₀ ρ τ lo b r Q):wpS (model prog w) A E s (ro lo n b) Q st:=by
 unfold ro;refine wpS_bind (wpS_lift (wpAny_rule ⟨rfl,?_⟩));refine wpS_bind (Nb C hn ω f z D F hg fun m l c d o G p q hq e g=>?_);dsimp only;have hsz:lo+m<=(arrOf c).size:=by rw[d.size];(first|lia|omega)
 by_cases a:l>0
 ·rw[if_pos a]
  refine wpS_bind (BO (HJ C hn ω p (d.setArr (mirror_perm _ _ _ _)) (o.trans (.mir hsz ω)) ?_ (g.turned hsz hq e) (g.tl.mir hsz (Ae _)) h));intro i j u v x;show R ρ (mirror (arrOf c) _ _ _) j<=R ρ (mirror (arrOf c) _ _ _) i;rw[zz hsz e,zz hsz e];exact q i j u v x
 ·rw[if_neg a]
  have y:l=0:=ω
  subst y;exact HJ C hn ω p d o q g.one g.tl h
def Nc(C:im prog w A s κ a₀ ρ){st:SortSt}{lo u:Nat}{Q:Option Nat->SortSt->Prop}(hn:lo+u<=a₀.size)(h1:1<=u)(e:B κ a₀ st)(p:Tl τ (arrOf st) lo)(h:kR κ a₀ ρ τ lo u st Q):wpS (model prog w) A E s (countRun' lo u) Q st:=by
 rw[M'];refine wpS_bind (HI C hn (Ae 1) h1 e (fun i j b o q=>?_) fun n F G x I=>?_)
 ·have:i=j:=ω
  subst this;exact Int.le_refl _
 dsimp only;have H:St ρ τ (arrOf st) lo (lo+n):=fun i j b o q _=>p i j o ω (by rw[e.size];(first|lia|omega))
 by_cases g:n=u
 ·rw[if_pos (by simpa using g)]
  exact wpS_pure (h n st e .refl F G x H (p.mono ω))
 ·rw[if_neg (by simpa using g)]
  have d:R ρ (arrOf st) (lo+n)<R ρ (arrOf st) (lo+n-1):=I.resolve_left g
  by_cases v:n>1
  ·rw[if_pos v]
   refine wpS_bind (rj C e ω ω ?_)
   by_cases c:R ρ (arrOf st) lo<R ρ (arrOf st) (lo+n-1)
   ·simp only[c,decide_true,if_true]
    exact wpS_pure (h n st e .refl F G x H (p.mono ω))
   ·simp only[c,decide_false,Bool.false_eq_true,if_false]
    have hsz:lo+n<=(arrOf st).size:=by rw[e.size];(first|lia|omega)
    have a:∀k,lo<=k->k<lo+n->R ρ (arrOf st) k=R ρ (arrOf st) (lo+n-1):=by
     intro k b hk;have a1:=x lo k ω b hk;have a2:=x k (lo+n-1) b ω ω;(first|lia|omega)
    refine wpS_bind (BO (HK C hn ω (e.setArr (mirror_perm _ _ _ _)) (.mir hsz (Ae _)) ?_ ⟨?_,?_,?_,?_⟩ h))
    ·intro i j b o q
     show R ρ (mirror (arrOf st) _ _ _) j<=R ρ (mirror (arrOf st) _ _ _) i;rw[zz hsz a,zz hsz a]
     by_cases D:j<lo+n
     ·rw[a i ω ω,a j ω D];exact Int.le_refl _
     ·have y:j=lo+n:=ω
      subst y
      by_cases l:i=lo+n
      ·subst l;exact Int.le_refl _
      ·rw[a i ω ω];exact Int.le_of_lt d
    ·rw[show lo+(n+1)-(0+1)=lo+n from ω]
     intro i j b o q _;show R τ (mirror (arrOf st) _ _ _) j<=R τ (mirror (arrOf st) _ _ _) i;rw[zU hsz,zU hsz,if_pos ω,if_pos ω];exact p _ _ ω ω ω
    ·intro i j h1 h2 J;(first|lia|omega)
    ·intro i b hi
     show R ρ (mirror (arrOf st) _ _ _) _<R ρ (mirror (arrOf st) _ _ _) i;rw[zz hsz a,zz hsz a,show lo+(n+1)-1=lo+n from ω,a i b ω];exact d
    ·exact(p.mono (show lo<=lo+n from ω)).mir hsz (Ae _)|>.mono ω
  ·rw[if_neg v]
   have r:n=1:=ω
   subst r;refine HK C hn ω e .refl ?_ ⟨?_,?_,?_,p.mono ω⟩ h
   ·intro i j b o q
    by_cases l:i=j
    ·subst l;exact Int.le_refl _
    ·have f:i=lo:=ω
     have z:j=lo+1:=ω
     subst f;subst z;exact Int.le_of_lt d
   ·intro i j b o q;(first|lia|omega)
   ·intro i j h1 h2 J;(first|lia|omega)
   ·intro i b hi
    have f:i=lo:=ω
    subst f;exact d
def Nd(C:im prog w A s κ a₀ ρ){st:SortSt}{lo n ok:Nat}{Q:Bool->SortSt->Prop}(hn:lo+n<=a₀.size)(U:ok<=n)(vt:1<=ok)(W:B κ a₀ st)(F:cn ρ (arrOf st) lo (lo+ok))(X:St ρ τ (arrOf st) lo (lo+ok))(Y:Tl τ (arrOf st) (lo+ok))(h:∀a,B κ a₀ a->Pre lo st a->cn ρ (arrOf a) lo (lo+n)->St ρ τ (arrOf a) lo (lo+n)->Q true a):wpS (model prog w) A E s (binarySort' lo n ok) Q st:=by
 rw[binarySort'_eq];refine wpS_bind (wpS_mono (wpS_forRange (I:=fun k c a=>c=(none,())/\B κ a₀ a/\Pre lo st a/\cn ρ (arrOf a) lo (lo+min k n)/\St ρ τ (arrOf a) lo (lo+min k n)/\Tl τ (arrOf a) (lo+min k n))
  (Q:=fun c a=>c=(none,())/\B κ a₀ a/\Pre lo st a/\cn ρ (arrOf a) lo (lo+n)/\St ρ τ (arrOf a) lo (lo+n)) ?step ?fin ?init) ?post)
 case post=>
  rintro c a ⟨rfl,o,v,f,g⟩;exact wpS_pure (h a o v f g)
 case init=>
  rw[show min (max ok 1) n=ok from ω];exact⟨rfl,W,.refl,F,X,Y⟩
 case fin=>
  rintro c a ⟨hc,o,v,f,g,_⟩;rw[show min (max (max ok 1) n) n=n from ω] at f g;exact⟨hc,o,v,f,g⟩
 case step=>
  rintro k c a BR Z ⟨rfl,o,v,f,g,y⟩;rw[show min k n=k from ω] at f g y;have hk:lo+k<a₀.size:=ω
  refine wpS_bind (wpS_mono (wpS_forRange (I:=fun x c b=>b=a/\∃l r,c=(none,l,r)/\l<=r/\r<=k/\r-l<=k-x/\
    (∀i,i<l->R ρ (arrOf a) (lo+i)<=R ρ (arrOf a) (lo+k))/\(∀i,r<=i->i<k->R ρ (arrOf a) (lo+k)<R ρ (arrOf a) (lo+i)))
   (Q:=fun c b=>b=a/\∃l r,c=(none,l,r)/\l<=k/\
    (∀i,i<l->R ρ (arrOf a) (lo+i)<=R ρ (arrOf a) (lo+k))/\(∀i,l<=i->i<k->R ρ (arrOf a) (lo+k)<R ρ (arrOf a) (lo+i))) ?istep ?ifin ?iinit) ?ipost)
  case iinit=>exact⟨rfl,0,k,rfl,ω,ω,ω,fun i hi=>ω,fun i h1 h2=>ω⟩
  case ifin=>
   rintro c b ⟨rfl,l,r,rfl,P,G,S,q,u⟩;have:l=r:=ω
   subst this;exact⟨rfl,l,l,rfl,G,q,u⟩
  case istep=>
   rintro x c b _ Cb ⟨rfl,l,r,rfl,P,G,S,q,u⟩;dsimp only
   by_cases z:l ≥ r
   ·rw[if_pos z]
    have:l=r:=ω
    subst this;exact wpS_pure ⟨rfl,l,l,rfl,G,q,u⟩
   ·rw[if_neg z]
    refine wpS_bind (rj C o hk ω ?_)
    by_cases e:R ρ (arrOf b) (lo+k)<R ρ (arrOf b) (lo+(l+r) / 2)
    ·simp only[e,decide_true,if_true]
     refine wpS_pure ⟨rfl,l,(l+r) / 2,rfl,ω,ω,ω,q,fun i h1 h2=>?_⟩;exact Int.lt_of_lt_of_le e (f _ _ ω ω ω)
    ·simp only[e,decide_false,Bool.false_eq_true,if_false]
     refine wpS_pure ⟨rfl,(l+r) / 2+1,r,rfl,ω,ω,ω,fun i h1=>?_,u⟩;exact Int.le_trans (f (lo+i) (lo+(l+r) / 2) ω ω ω) (Int.not_lt.mp e)
  case ipost=>
   rintro c b ⟨rfl,l,r,rfl,Bw,q,u⟩;show wpS _ _ _ _ (do moveDown' (lo+k) (lo+l);pure (ForInStep.yield (none,()))) _ _;rw[moveDown'_eq];have p:lo+k<(arrOf b).size:=by rw[o.size];exact hk
   have T:∀i,lo<=i->i<lo+l->R ρ (arrOf b) i<=R ρ (arrOf b) (lo+k):=fun i h1 h2=>by
    have:=q (i-lo) ω;rwa [show lo+(i-lo)=i from ω] at this
   have M:∀i,lo+l<=i->i<lo+k->R ρ (arrOf b) (lo+k)<R ρ (arrOf b) i:=fun i h1 h2=>by
    have:=u (i-lo) ω ω;rwa [show lo+(i-lo)=i from ω] at this
   refine wpS_bind (wpS_modify (wpS_pure ⟨rfl,o.setArr (bubble_perm _ _ _),v.trans (.bub p ω ω),?_,?_,?_⟩))
   ·rw[show min (k+1) n=k+1 from ω]
    intro i j N D L;show R ρ (bubble (arrOf b) (lo+k) (lo+k-(lo+l))) i<=R ρ (bubble (arrOf b) (lo+k) (lo+k-(lo+l))) j;rw[nD p ω,nD p ω,show lo+k-(lo+k-(lo+l))=lo+l from ω]
    repeat' split
    all_goals first
     |(exfalso;(first|lia|omega))
     |exact Int.le_refl _
     |exact T _ ω ω
     |exact Int.le_of_lt (M _ ω ω)
     |exact f _ _ ω ω ω
   ·rw[show min (k+1) n=k+1 from ω]
    intro i j N D L O;have d:R ρ (bubble (arrOf b) (lo+k) (lo+k-(lo+l))) i=R ρ (bubble (arrOf b) (lo+k) (lo+k-(lo+l))) j:=O;show R τ (bubble (arrOf b) (lo+k) (lo+k-(lo+l))) i<=R τ (bubble (arrOf b) (lo+k) (lo+k-(lo+l))) j;rw[nD p ω,nD p ω,show lo+k-(lo+k-(lo+l))=lo+l from ω] at d ⊢
    by_cases i1:i=lo+l
    ·rw[if_pos i1,if_neg ω,if_pos ω] at d
     have:=M (j-1) ω ω;(first|lia|omega)
    ·by_cases i2:lo+l<i
     ·rw[if_neg i1,if_pos ω,if_neg ω,if_pos ω] at d ⊢
      exact g _ _ ω ω ω d
     ·by_cases J:j=lo+l
      ·rw[if_neg i1,if_neg ω,if_pos J] at d ⊢
       exact y _ _ ω ω ω
      ·by_cases j2:lo+l<j
       ·rw[if_neg i1,if_neg ω,if_neg J,if_pos ω] at d ⊢
        exact g _ _ ω ω ω d
       ·rw[if_neg i1,if_neg ω,if_neg J,if_neg ω] at d ⊢
        exact g _ _ ω ω ω d
   ·rw[show min (k+1) n=k+1 from ω]
    intro i j D L F;have H:j<(arrOf b).size:=by
     have:=(bubble_perm (arrOf b) (lo+k) (lo+k-(lo+l))).size_eq;have BM:j<(bubble (arrOf b) (lo+k) (lo+k-(lo+l))).size:=F;(first|lia|omega)
    show R τ (bubble (arrOf b) (lo+k) (lo+k-(lo+l))) i<=R τ (bubble (arrOf b) (lo+k) (lo+k-(lo+l))) j;rw[nD p ω,nD p ω,show lo+k-(lo+k-(lo+l))=lo+l from ω,if_neg (show ¬j=lo+l from ω),if_neg (show ¬(lo+l<j/\j<=lo+k) from ω)];split
    ·exact y _ _ ω ω H
    ·split
     ·exact y _ _ ω ω H
     ·exact y _ _ D ω H
def Nf(C:im prog w A s κ a₀ ρ){st:SortSt}{Q:Unit->SortSt->Prop}(H:B κ a₀ st)(hp:pendingOf st=#[])(h1:1<=a₀.size)(W:a₀.size<64)(X:Tl τ (arrOf st) 0)(h:∀a,B κ a₀ a->cn ρ (arrOf a) 0 a₀.size->St ρ τ (arrOf a) 0 a₀.size->Q () a):wpS (model prog w) A E s sortRuns' Q st:=by
 rw[sortRuns'_eq];refine wpS_bind (wpS_get ?_);dsimp only;have T:minRun' a₀.size a₀.size 0=a₀.size:=by
  obtain⟨f,O⟩:∃f,a₀.size=f+1:=⟨a₀.size-1,ω⟩;have:minRun' (f+1) a₀.size 0=a₀.size:=by rw[minRun'_succ,if_pos W];rfl
  rwa [<-O] at this
 simp only[H.size,T];refine wpS_bind (wpS_mono (wpS_forRange
  (I:=fun x c a=>(x=0/\c=(none,0)/\B κ a₀ a/\pendingOf a=#[]/\Tl τ (arrOf a) 0)\/(1<=x/\c=(none,a₀.size)/\B κ a₀ a/\(pendingOf a).size<=1/\cn ρ (arrOf a) 0 a₀.size/\St ρ τ (arrOf a) 0 a₀.size))
  (Q:=fun c a=>c=(none,a₀.size)/\B κ a₀ a/\(pendingOf a).size<=1/\cn ρ (arrOf a) 0 a₀.size/\St ρ τ (arrOf a) 0 a₀.size) ?step ?fin (.inl ⟨rfl,rfl,H,hp,X⟩)) ?post)
 case fin=>
  rintro c a (⟨hx,_,_⟩|⟨_,hc,r⟩)
  ·(first|lia|omega)
  ·exact⟨hc,r⟩
 case step=>
  rintro x c a _ hx (⟨rfl,rfl,u,g,v⟩|⟨Y,rfl,r⟩)
  ·dsimp only
   rw[if_neg ω];simp only[Nat.sub_zero,Nat.min_self];refine wpS_bind (Nc C ω ω u v fun m j y P2 m1 m2 l o J=>?_);dsimp only;have tl:∀d,B κ a₀ d->pendingOf d=#[]->cn ρ (arrOf d) 0 a₀.size->St ρ τ (arrOf d) 0 a₀.size->B κ a₀ (setPending d ((pendingOf d).push (0,a₀.size,0)))/\(pendingOf (setPending d ((pendingOf d).push (0,a₀.size,0)))).size<=1/\cn ρ (arrOf (setPending d ((pendingOf d).push (0,a₀.size,0)))) 0 a₀.size/\St ρ τ (arrOf (setPending d ((pendingOf d).push (0,a₀.size,0)))) 0 a₀.size:=
    fun d b p q L=>⟨⟨b.perm,b.kind,b.failed⟩,by show((pendingOf d).push _).size<=1;rw[p];exact Ae 1,q,L⟩
   by_cases i:m<a₀.size
   ·rw[if_pos i]
    refine wpS_bind (wpS_lift (wpAny_rule ⟨rfl,?_⟩));refine wpS_bind (Nd C ω m2 m1 y l o J fun d M P3 z D=>?_);simp only[Bool.not_true,Bool.false_eq_true,if_false];refine wpS_bind (wpS_get ?_);have F:pendingOf d=#[]:=by rw[P3.pend,P2.pend];exact g
    have hb:(pendingOf d).back?=none:=by rw[F];rfl
    rw[hb];dsimp only;simp only[Nat.zero_add] at z D ⊢;exact wpS_bind (wpS_modify (wpS_pure (.inr ⟨ω,rfl,tl d M F z D⟩)))
   ·rw[if_neg i]
    have U:m=a₀.size:=ω
    subst U;refine wpS_bind (wpS_get ?_);have G:pendingOf j=#[]:=by rw[P2.pend];exact g
    have hb:(pendingOf j).back?=none:=by rw[G];rfl
    rw[hb];dsimp only;simp only[Nat.zero_add] at l o ⊢;exact wpS_bind (wpS_modify (wpS_pure (.inr ⟨ω,rfl,tl j y G l o⟩)))
  ·dsimp only
   rw[if_pos (Ae _)];exact wpS_pure ⟨rfl,r⟩
 case post=>
  rintro c a ⟨rfl,u,P,S,ss⟩;dsimp only;refine wpS_bind (wpS_mono (wpS_forRange (I:=fun _ c e=>e=a/\c=(none,())) (Q:=fun c e=>e=a/\c=(none,())) ?_ (fun _ _ N=>N) ⟨rfl,rfl⟩) ?_)
  ·rintro x c e _ _ ⟨rfl,rfl⟩
   refine wpS_bind (wpS_get ?_);rw[if_pos P];exact wpS_pure ⟨rfl,rfl⟩
  ·rintro c e ⟨rfl,rfl⟩
   exact wpS_pure (h _ u S ss)
end
section
variable{prog:Program}{w:World}{A:Around}{E:Ω}{s:Shared}{κ:SortKind}{a₀:Array Keyed}{ρ:Keyed->Int}
def Ng(C:im prog w A s κ a₀ ρ){st:SortSt}{Q:Unit->SortSt->Prop}(d:B κ a₀ st)(hp:pendingOf st=#[])(h1:1<=a₀.size)(e:a₀.size<64)(h:∀a,B κ a₀ a->cn ρ (arrOf a) 0 a₀.size->Q () a):wpS (model prog w) A E s sortRuns' Q st:=
 Nf (τ:=fun _=>0) C d hp h1 e (fun i j _ _ _=>by unfold R;split<;>split<;>exact Int.le_refl _) fun a b c _=>h a b c
end
end Tim
end
section
namespace cn
open PySem PyProof.Rows HT
def HL:∀a:List Int,lexLt a a=false
 |[]=>rfl
 |x::a=>by rw[qj,if_pos rfl];exact HL a
def EA:∀{a b c:List Int},lexLt a b=true->lexLt b c=true->lexLt a c=true
 |[],[],_,h,_=>by cases h
 |[],_::_,[],_,h=>by cases h
 |[],_::_,_::_,_,_=>rfl
 |_::_,[],_,h,_=>by cases h
 |_::_,_::_,[],_,h=>by cases h
 |x::a,y::b,z::c,h1,h2=>by
  rw[qj] at h1 h2 ⊢
  by_cases e1:x=y
  ·rw[if_pos e1] at h1
   by_cases e2:y=z
   ·rw[if_pos e2] at h2
    rw[if_pos (e1.trans e2)];exact EA h1 h2
   ·rw[if_neg e2] at h2
    rw[if_neg ω];have:=of_decide_eq_true h2;exact decide_eq_true ω
  ·rw[if_neg e1] at h1
   have d:=of_decide_eq_true h1
   by_cases e2:y=z
   ·rw[if_neg ω]
    exact decide_eq_true ω
   ·rw[if_neg e2] at h2
    have e:=of_decide_eq_true h2;rw[if_neg ω];exact decide_eq_true ω
def HM:∀{a b:List Int},lexLt a b=false->lexLt b a=false->a=b
 |[],[],_,_=>rfl
 |[],_::_,h,_=>by cases h
 |_::_,[],_,h=>by cases h
 |x::a,y::b,h1,h2=>by
  rw[qj] at h1 h2
  by_cases e:x=y
  ·subst e
   rw[if_pos rfl] at h1 h2;rw[HM h1 h2]
  ·rw[if_neg e] at h1
   rw[if_neg (Ne.symm e)] at h2;have:=of_decide_eq_false h1;have:=of_decide_eq_false h2;(first|lia|omega)
def rk(ls:Ξ)(l:List Int):Int:=((ls.filter fun m=>lexLt m l).length:Nat)
def HN{ls:Ξ}{l m:List Int}(f:l∈ls)(g:m∈ls):decide (rk ls l<rk ls m)=lexLt l m:=by
 have mono:∀{a b:List Int},(∀x,lexLt x a=true->lexLt x b=true)->∀k:Ξ,(k.filter fun x=>lexLt x a).length<=(k.filter fun x=>lexLt x b).length:=by
  intro a b d k
  induction k with
  |nil=>exact Ae _
  |cons x k ih=>
   rw[List.filter_cons,List.filter_cons]
   by_cases q:lexLt x a=true
   ·rw[if_pos q,if_pos (d x q),AO,AO];(first|lia|omega)
   ·rw[if_neg q]
    split
    ·rw[AO];(first|lia|omega)
    ·exact ih
 have c:∀{a b:List Int},(∀x,lexLt x a=true->lexLt x b=true)->lexLt a b=true->∀k:Ξ,a∈k->(k.filter fun x=>lexLt x a).length<(k.filter fun x=>lexLt x b).length:=by
  intro a b d h k
  induction k with
  |nil=>intro q;cases q
  |cons x k ih=>
   intro hk;rw[List.filter_cons,List.filter_cons];rcases List.mem_cons.mp hk with e|e
   ·subst e
    rw[if_neg (by rw[HL];exact Aw),if_pos h,AO];have:=mono d k;(first|lia|omega)
   ·have:=ih e
    by_cases q:lexLt x a=true
    ·rw[if_pos q,if_pos (d x q),AO,AO];(first|lia|omega)
    ·rw[if_neg q]
     split
     ·rw[AO];(first|lia|omega)
     ·exact this
 unfold rk;cases q:lexLt l m with
 |true=>
  have:=c (a:=l) (b:=m) (fun x hx=>EA hx q) q ls f;exact decide_eq_true ω
 |false=>
  have:=mono (a:=m) (b:=l) (fun x hx=>by
   cases z:lexLt x l with
   |true=>rfl
   |false=>
    cases z2:lexLt l x with
    |true=>rw[EA z2 hx] at q;cases q
    |false=>rw[HM z z2] at hx;rw[hx] at q;cases q) ls
  exact decide_eq_false ω
structure By(prog:Program)(w:World)(A:Around)(good:Heap->Prop)(us:List Value)(ls:Ξ):Prop where
 len:us.length=ls.length
 fn:∀(i j:Nat) u l m,us[i]?=some u->us[j]?=some u->ls[i]?=some l->ls[j]?=some m->l=m
 ask:2<=us.length->∃κ:SortKind,(∀(s:Shared)(Q:SortKind->Shared->Prop)(E:Ω),good s.heap->Q κ s->wpAny (model prog w) A (keyKind' us.toArray) Q E s)/\
  ∀(i j:Nat) u v l m,us[i]?=some u->us[j]?=some v->ls[i]?=some l->ls[j]?=some m->∀(s:Shared)(Q:Bool->Shared->Prop)(E:Ω),good s.heap->Q (lexLt l m) s->wpAny (model prog w) A (keyLt' κ u v) Q E s
open Classical in
noncomputable def nF(us:List Value)(ls:Ξ)(u:Value):List Int:=if h:∃l,∃i:Nat,us[i]?=some u/\ls[i]?=some l then h.choose else []
def rq{us:List Value}{ls:Ξ}(fn:∀(i j:Nat) u l m,us[i]?=some u->us[j]?=some u->ls[i]?=some l->ls[j]?=some m->l=m){i:Nat}{u:Value}{l:List Int}(h1:us[i]?=some u)(h2:ls[i]?=some l):nF us ls u=l:=by
 unfold nF;have h:∃l,∃i:Nat,us[i]?=some u/\ls[i]?=some l:=⟨l,i,h1,h2⟩;rw[dif_pos h];obtain⟨j,e1,e2⟩:=h.choose_spec;exact fn j i u _ l e1 h1 e2 h2
noncomputable def nG(us:List Value)(ls:Ξ)(p:Keyed):Int:=rk ls (nF us ls p.1)
section
variable{prog:Program}{w:World}{A:Around}{E:Ω}{s:Shared}{good:Heap->Prop}{us vs:List Value}{ls:Ξ}
def B8(h:us.length=vs.length){p:Keyed}(hp:p∈(us.toArray.zip vs.toArray).toList):∃i:Nat,us[i]?=some p.1/\vs[i]?=some p.2:=by
 have e:(us.toArray.zip vs.toArray).toList=us.zip vs:=by simp
 rw[e] at hp;obtain⟨i,hi,e2⟩:=List.mem_iff_getElem.mp hp;rw[List.getElem_zip] at e2;rw[List.length_zip] at hi;refine⟨i,?_,?_⟩
 ·rw[Ac ω,<-e2]
 ·rw[Ac ω,<-e2]
def Nh(B:By prog w A good us ls)(d:us.length=vs.length)(hg:good s.heap){κ:SortKind}(h2:2<=us.length)(o:us.length<64)(hk:∀(i j:Nat) u v l m,us[i]?=some u->us[j]?=some v->ls[i]?=some l->ls[j]?=some m->∀(s:Shared)(Q:Bool->Shared->Prop)(E:Ω),good s.heap->Q (lexLt l m) s->wpAny (model prog w) A (keyLt' κ u v) Q E s){Q:Unit->SortSt->Prop}(h:∀a,(arrOf a).Perm (us.toArray.zip vs.toArray)->failedOf a=none->Tim.cn (nG us ls) (arrOf a) 0 vs.length->Q () a):wpS (model prog w) A E s sortRuns' Q (SortSt.mk' κ (us.toArray.zip vs.toArray) #[] 7 none):=by
 have hz:(us.toArray.zip vs.toArray).size=vs.length:=by simp;(first|lia|omega)
 refine Tim.Ng (κ:=κ) (a₀:=us.toArray.zip vs.toArray) (ρ:=nG us ls) ⟨fun x y hx hy f g hq=>?_⟩ ⟨Array.Perm.refl _,rfl,rfl⟩ rfl (by rw[hz];(first|lia|omega)) (by rw[hz];(first|lia|omega)) fun a b e=>h a b.perm b.failed (by rw[<-hz];exact e);obtain⟨i,e1,_⟩:=B8 d hx;obtain⟨j,e2,_⟩:=B8 d hy;have hi:i<ls.length:=by rw[<-B.len];exact(List.getElem?_eq_some_iff.mp e1).1
 have c:j<ls.length:=by rw[<-B.len];exact(List.getElem?_eq_some_iff.mp e2).1
 have f1:ls[i]?=some ls[i]:=Ac hi;have f2:ls[j]?=some ls[j]:=Ac c;refine hk i j _ _ _ _ e1 e2 f1 f2 s f g hg ?_;unfold nG at hq;rw[rq B.fn e1 f1,rq B.fn e2 f2,HN (AI hi) (AI c)] at hq;exact hq
def cS{a b:Type}:∀(l:List a)(m:List b)(i:Nat),(l.zip m)[i]?=(l[i]?).bind fun x=>(m[i]?).map fun y=>(x,y)
 |[],m,i=>by simp
 |x::l,[],i=>by cases h:(x::l)[i]?<;>simp
 |x::l,y::m,0=>rfl
 |x::l,y::m,i+1=>by
  rw[List.zip_cons_cons,List.getElem?_cons_succ,List.getElem?_cons_succ,List.getElem?_cons_succ];exact cS l m i
def Ni(B:By prog w A good us ls)(l:us.length=vs.length){xs:Array Keyed}(hp:xs.Perm (us.toArray.zip vs.toArray))(r:Tim.cn (nG us ls) xs 0 vs.length):∃ps:List (List Int×Value),ps.Perm (ls.zip vs)/\xs.toList.map (·.2)=ps.map (·.2)/\ps.Pairwise fun(a b:List Int×Value)=>HT.lexLt b.1 a.1=false:=by
 have pl:xs.toList.Perm (us.zip vs):=by
  have:=Array.perm_iff_toList_perm.mp hp
  simpa using this
 refine⟨xs.toList.map fun p=>(nF us ls p.1,p.2),?_,by rw[AV];rfl,?_⟩
 ·have e:(us.zip vs).map (fun p:Keyed=>(nF us ls p.1,p.2))=ls.zip vs:=by
   apply List.ext_getElem?;intro i;rw[Aj,cS,cS];cases e1:us[i]? with
   |none=>
    have:ls[i]?=none:=List.getElem?_eq_none (by rw[<-B.len];exact List.getElem?_eq_none_iff.mp e1);rw[this];rfl
   |some u=>
    have hi:i<ls.length:=by rw[<-B.len];exact(List.getElem?_eq_some_iff.mp e1).1
    have f1:ls[i]?=some ls[i]:=Ac hi;rw[f1];cases e2:vs[i]? with
    |none=>rfl
    |some v=>
     show some (nF us ls u,v)=some (ls[i],v);rw[rq B.fn e1 f1]
  rw[<-e];exact pl.map _
 ·rw[List.pairwise_map,List.pairwise_iff_getElem]
  intro i j hi h o;have hsz:xs.size=vs.length:=by
   have:=pl.length_eq;rw[Array.length_toList,List.length_zip] at this;(first|lia|omega)
  rw[Array.length_toList] at hi h;have q:=r i j (AB _) (Nat.le_of_lt o) ω;have a1:xs[i]?=some xs[i]:=getElem?_pos xs i hi;have a2:xs[j]?=some xs[j]:=getElem?_pos xs j h;rw[Tim.i_ a1,Tim.i_ a2] at q;simp only[Array.getElem_toList];obtain⟨f,g1,_⟩:=B8 l (p:=xs[i]) (by
   have:=pl.mem_iff.mp (show xs[i]∈xs.toList by simp)
   simpa using this)
  obtain⟨g,g2,_⟩:=B8 l (p:=xs[j]) (by
   have:=pl.mem_iff.mp (show xs[j]∈xs.toList by simp)
   simpa using this)
  have c:f<ls.length:=by rw[<-B.len];exact(List.getElem?_eq_some_iff.mp g1).1
  have d:g<ls.length:=by rw[<-B.len];exact(List.getElem?_eq_some_iff.mp g2).1
  have f1:ls[f]?=some ls[f]:=Ac c;have f2:ls[g]?=some ls[g]:=Ac d;unfold nG at q;rw[rq B.fn g1 f1,rq B.fn g2 f2] at q ⊢;have:=HN (ls:=ls) (AI d) (AI c);rw[<-this];exact decide_eq_false ω
end
end cn
end
section
namespace cn
open PySem PyProof.Rows PySem.W
section
variable{prog:Program}{w:World}{A:Around}{E:Ω}{s:Shared}{good:Heap->Prop}{us vs:List Value}{ls:Ξ}
def Nj{ns:List Int}(hi:IntsAre us ns):By prog w A (fun _=>True) us (ns.map fun n=>[n]):=by
 have d:=hi.length;have at_:∀(i:Nat) u l,us[i]?=some u->(ns.map fun n=>[n])[i]?=some l->∃n t,u=.int n t/\l=[n]:=fun i u l h1 h2=>by
  obtain⟨t,e⟩:=IntsAre.int_at hi i u h1;rw[Aj] at h2;cases e2:ns[i]? with
  |none=>rw[e2] at h2;cases h2
  |some n=>
   rw[e2] at h2;have e3:ns.getD i 0=n:=by rw[Ab,e2];rfl
   rw[e3] at e;exact⟨n,t,e,(AS h2).symm⟩
 refine⟨by rw[Aa,d],fun i j u l m h1 h2 b c=>?_,fun h2=>⟨oneType',fun s Q E _ hq=>?_,fun i j u v l m h1 h2 b c s Q E _ hq=>?_⟩⟩
 ·obtain⟨n,t,e1,rfl⟩:=at_ i u l h1 b
  obtain⟨a,t',e2,rfl⟩:=at_ j u m h2 c;rw[e1] at e2;cases e2
  rfl
 ·match us,hi,h2 with
  |[],_,h2=>simp at h2
  |[_],_,h2=>simp at h2
  |v₁::v₂::rest,hi,_=>
   rw[keyKind_ints hi];exact Ao hq
 ·obtain⟨n,t,rfl,rfl⟩:=at_ i u l h1 b
  obtain⟨a,t',rfl,rfl⟩:=at_ j v m h2 c;refine kat_lt_int ?_;have:HT.lexLt [n] [a]=decide (n<a):=by
   rw[HT.qj]
   by_cases e:n=a
   ·rw[if_pos e,HT.LO];exact(decide_eq_false ω).symm
   ·rw[if_neg e]
  rw[this] at hq;exact hq
def IsPr(h:Heap)(u:Value)(l:List Int):Prop:=∃(a b:Addr)(n:Int)(t:Tok)(ad:List Value)(ps:List Int),u=.ref a/\l=n::ps/\IsTup h a #[.int n t,.ref b]/\IsTup h b ad.toArray/\IntsAre ad ps
def IsTup.inj{h:Heap}{a:Addr}{xs ys:Array Value}(h1:IsTup h a xs)(h2:IsTup h a ys):xs=ys:=by
 obtain⟨o,e,_,n,d⟩:=h1;obtain⟨o',b,_,c,d'⟩:=h2;rw[e] at b;cases b;rw[d] at d';injection d'
def IntsAre.inj{vs:List Value}{ns ms:List Int}(h:IntsAre vs ns)(g:IntsAre vs ms):ns=ms:=by
 induction h generalizing ms with
 |nil=>cases g;rfl
 |cons n t h ih=>cases g with|cons _ _ h'=>rw[ih h']
def IsPr.inj{h:Heap}{u:Value}{l m:List Int}(h1:IsPr h u l)(h2:IsPr h u m):l=m:=by
 obtain⟨a,b,n,t,ad,ps,rfl,rfl,c,d,i1⟩:=h1;obtain⟨a',b',j,t',its',o,e,rfl,f,g,i⟩:=h2;cases e;have:=cn.IsTup.inj c f;cases this;have e2:=cn.IsTup.inj d g;have e3:ad=its':=by simpa using e2
 subst e3;rw[IntsAre.inj i1 i]
end
def Out(ls:Ξ)(vs out:List Value):Prop:=∃ps:List (List Int×Value),ps.Perm (ls.zip vs)/\out=ps.map (·.2)/\ps.Pairwise fun(a b:List Int×Value)=>HT.lexLt b.1 a.1=false
section
variable{prog:Program}{w:World}{A:Around}{E:Ω}{s:Shared}{good:Heap->Prop}{us vs:List Value}{ls:Ξ}
def Nk(a:ls.length=vs.length)(hu:us.length=vs.length)(h2:vs.length<2):Out ls vs ((us.toArray.zip vs.toArray).map (·.2)).toList:=by
 have e:((us.toArray.zip vs.toArray).map (·.2)).toList=vs:=by
  rw[Array.toList_map,show(us.toArray.zip vs.toArray).toList=us.zip vs by simp,List.map_snd_zip ω]
 rw[e];refine⟨ls.zip vs,List.Perm.refl _,by rw[List.map_snd_zip ω],?_⟩;have hz:(ls.zip vs).length<2:=by rw[List.length_zip];(first|lia|omega)
 match ls.zip vs,hz with
 |[],_=>exact List.Pairwise.nil
 |[x],_=>simp
 |_::_::_,h=>simp only[AO] at h;(first|lia|omega)
def Nl(B:By prog w A good us ls)(c:us.length=vs.length)(g:vs.length<64)(hg:good s.heap){P:PySem.Fin->Shared->Prop}{G:Unit×SortSt->Sem PySem.Fin}(h:∀a,Out ls vs ((arrOf a).map (·.2)).toList->(arrOf a).size=vs.length->failedOf a=none->wpAny (model prog w) A (G (PUnit.unit,a)) P E s):wpAny (model prog w) A (if vs.toArray.size<2 then(pure general' >>= fun kind=>(if vs.toArray.size<2 then pure () else sortRuns').run (SortSt.mk' kind (us.toArray.zip vs.toArray) #[] 7 none) >>= G)
   else(keyKind' us.toArray >>= fun kind=>(if vs.toArray.size<2 then pure () else sortRuns').run (SortSt.mk' kind (us.toArray.zip vs.toArray) #[] 7 none) >>= G)) P E s:=by
 have b:(us.toArray.zip vs.toArray).size=vs.length:=by rw[Array.size_zip,AC,AC];(first|lia|omega)
 by_cases h2:vs.toArray.size<2
 ·rw[if_pos h2]
  refine Ad (Ao ?_);rw[if_pos h2];rw[StateT.run_pure];refine Ad (Ao ?_)
  try dsimp only
  rw[AC] at h2;exact h (SortSt.mk' general' (us.toArray.zip vs.toArray) #[] 7 none) (Nk (by rw[<-B.len];exact c) c h2) b rfl
 ·rw[if_neg h2,if_neg h2]
  rw[AC] at h2;obtain⟨κ,k1,k2⟩:=B.ask ω;refine Ad (k1 s _ E hg ?_);refine Ad (wpAny_mono (Nh (Q:=fun _ a=>(arrOf a).Perm (us.toArray.zip vs.toArray)/\failedOf a=none/\Tim.cn (nG us ls) (arrOf a) 0 vs.length) B c hg ω ω k2 fun a a1 a2 a3=>⟨a1,a2,a3⟩) ?_ fun _ _ e=>e);rintro⟨⟨⟩,a⟩ s' ⟨rfl,hp,d,f⟩
  try dsimp only
  exact h a (by
   obtain⟨ps,a1,a2,a3⟩:=Ni B c hp f;exact⟨ps,a1,by rw[Array.toList_map];exact a2,a3⟩) (by rw[hp.size_eq];exact b) d
def Nm{a:Addr}{n:Nat}{P:PySem.Fin->Shared->Prop}(c:s.heap.get? a=some (seqObj "list" vs.toArray n))(B:By prog w A good vs ls)(hg:∀h',(∀b o,b≠a->s.heap.get? b=some o->h'.get? b=some o)->good h')(hz:vs.length<=sizeLine)(j:vs.length<64)(h:∀out:Array Value,Out ls vs out.toList->P (.done (.ret .none)) {s with heap:=sortedHeap s.heap a vs out}):wpAny (model prog w) A (Builtin.«list.sort» ⟨[.ref a],[]⟩) P E s:=by
 rw[list_sort_plain];have f:a<s⁻¹:=Ar c;refine Ad (listItems_at c rfl ?_);refine Ad (listUpdate_at c rfl ?_ (by rw[AC];exact hz) (AB _));obtain⟨e1,d⟩:∃e1,(s.heap.update a (Obj.mapSeq fun _=>#[])).get? a=some (seqObj "list" #[] e1):=⟨_,get?_update_seq c (fun _=>#[])⟩;refine Ad (seqEpoch_at d rfl ?_);refine Ad (wpAny_newTuple ?_ (by show vs.length<=_;exact hz));refine Ad (wpAny_newList ?_ (AB _));refine wpAny_holding ?_;have g:(((s.heap.update a (Obj.mapSeq fun _=>#[])).push (seqObj "tuple" vs.toArray 0)).push (seqObj "list" #[] 0)).get? a=some (seqObj "list" #[] e1):=by
  rw[Heap.get?_push_ne _ _ _ (by rw[size_push',Heap.size_update];exact Az (Nat.lt_succ_of_lt f)),Heap.get?_push_ne _ _ _ (by rw[Heap.size_update];exact Az f)];exact d
 show wpAny (model prog w) A _ P E {s with heap:=((s.heap.update a (Obj.mapSeq fun _=>#[])).push (seqObj "tuple" vs.toArray 0)).push (seqObj "list" #[] 0)};dsimp only;refine Nl (s:={s with heap:=((s.heap.update a (Obj.mapSeq fun _=>#[])).push (seqObj "tuple" vs.toArray 0)).push (seqObj "list" #[] 0)}) B rfl j (hg _ fun b o hb e=>Ai _ (Ai _ (by rw[Heap.get?_update_ne _ _ _ _ hb];exact e))) fun l c hsz i=>?_;dsimp only;refine Ad (seqEpoch_at g rfl ?_);refine Ad (listUpdate_at g rfl ?_ (AB _) (Ag (Nat.le_of_eq ((Array.size_map ..).trans hsz)) (Nat.le_succ_of_le hz)));rw[i];simp only[bne_self_eq_false,Bool.false_eq_true,if_false];exact Ao (h _ c)
end
end cn
end
section
namespace L2
open PySem PySem.Spec PyProof.Rows
def gK(N N':List Str)(al:List (Option Nat))(scope:Scope):Bool:=decide (al.length=N'.length)&&(al.zip N').all fun p=>match p.1 with
 |none=>true
 |some j=>decide (N[j]?=some p.2)&&decide (scope.names.lookup p.2=some .free)
def EC{N N':List Str}{al:List (Option Nat)}{scope:Scope}(h:gK N N' al scope=true):m5 N N' al scope:=by
 unfold gK at h;rw[AU,decide_eq_true_eq,AY] at h;refine⟨h.1,fun i j e=>?_⟩;have hi:i<al.length:=(List.getElem?_eq_some_iff.mp e).1;have e2:N'[i]?=some N'[i]:=Ac (by rw[<-h.1];exact hi);have:=h.2 (some j,N'[i]) (List.mem_iff_getElem?.mpr ⟨i,by rw[cn.cS,e,e2];rfl⟩);simp only[AU,decide_eq_true_eq] at this;exact⟨N'[i],e2,this.1,this.2⟩
section
variable{X:Cx}{scope:Scope}{al:List (Option Nat)}{tg iter aS:Expr}{aF:List Expr}{wi:TI}{g:TG}{tc:TT}{te:TE}{pos:Pos}
def zx(N N':List Str)(al:List (Option Nat))(hi:PI X tg iter wi)(hg:∀a C s₀ H₀ ex,PG (dF X scope N' a C s₀ H₀ ex) tg g)(c:∀a C s₀ H₀ ex,gA (dF X scope N' a C s₀ H₀ ex) aF tc)(d:∀a C s₀ H₀ ex,PE (dF X scope N' a C s₀ H₀ ex) aS te)(hc:X.calm=true:=by rfl)(hk:scope.kind=.function:=by rfl)(e:∀y∈scope.names,y.2≠.cell:=by decide +kernel)(f:∀y∈scope.names,y.2=.free->scope.names.lookup y.1=some .free:=by decide +kernel)(h:∀y∈scope.names,y.2=.local->scope.names.lookup y.1=some .local:=by decide +kernel)(hfr:∀y∈scope.names,y.2=.free->X.env.kindOf y.1=some .cell\/X.env.kindOf y.1=some .free)(i:X.N=N:=by rfl)(b:gK N N' al scope=true:=by decide +kernel)(j:∀x,foldedSetIterable iter X.env x=pure x:=by intro _;rfl):PE X (.ListComp aS [⟨tg,iter,aF,0⟩] scope pos) (i6 wi al g tc te):=
 Mq hc hk e f h hfr (EC (by rw[i];exact b)) hi hg c d j
end
def cU{env:Env}{scope:Scope}(h:scope.names.all (fun y=>decide (y.2≠.free))=true):∀y∈scope.names,y.2=.free->env.kindOf y.1=some .cell\/env.kindOf y.1=some .free:=fun y hy e=>
 absurd e (of_decide_eq_true (List.all_eq_true.mp h y hy))
def a_{env:Env}{scope:Scope}(sc:Scope)(h:scope.names.all (fun y=>decide (y.2≠.free)|| decide (sc.names.lookup y.1=some .cell)|| decide (sc.names.lookup y.1=some .free))=true)(a:env.scope=sc:=by rfl):∀y∈scope.names,y.2=.free->env.kindOf y.1=some .cell\/env.kindOf y.1=some .free:=fun y hy e=>by
 subst a;have:=List.all_eq_true.mp h y hy;simp only[Bool.or_eq_true,decide_eq_true_eq] at this;rcases this with (q|q)|q
 ·exact absurd e q
 ·exact .inl q
 ·exact .inr q
def bF(l:List Str)(h:l.Nodup:=by decide +kernel):l.Nodup:=h
def fK{te:TE}{σ:St}{H:Hp}{P:VK}{S:Hp->Prop}(h:te σ H P):bx σ H fun b a=>if b=true then te σ a P else S a:=by
 show if true=true then te σ H P else S H;rw[if_pos rfl];exact h
def cf{i:Nat}{v:V}{te:TE}{σ:St}{H:Hp}{P:St->VK}{S:St->Hp->Prop}(h:te (σ.set i (some v)) H (P (σ.set i (some v)))):zH i v σ H fun a d=>bx a d fun b c=>if b=true then te a c (P a) else S a c:=fK (S:=S (σ.set i (some v))) h
def zy{J:It}{g:TG}{tc:TT}{te:TE}{σ:St}{H1:Hp}{Q:VK}{D:Addr}(h:cm J g tc te σ H1 D Q):cm J g tc te σ H1 D Q:=h
end L2
end
section
namespace K22
open PySem L2
def top(i:Nat):Stmt:=PySem.Challenge.pw_seamwright_k22_steps_by_little_squares.main.body.getD i (.Pass ⟨0,0,0,0⟩)
end K22
end
section
namespace L2
open PySem PySem.Spec PyProof.Rows
def No{env env0:Env}{scope a:Scope}(c:env.scope=relabel a env0)(h:scope.names.all (fun y=>decide (y.2≠.free)|| decide (a.names.lookup y.1=some .cell)|| decide (a.names.lookup y.1=some .free))=true):∀y∈scope.names,y.2=.free->env.kindOf y.1=some .cell\/env.kindOf y.1=some .free:=by
 intro y hy e;have:=List.all_eq_true.mp h y hy;simp only[Bool.or_eq_true,decide_eq_true_eq] at this;have b:a.names.lookup y.1=some .free\/a.names.lookup y.1=some .cell:=by
  rcases this with (q|q)|q
  ·exact absurd e q
  ·exact .inr q
  ·exact .inl q
 have:=Er (scope:=a) (env:=env0) b;unfold Env.kindOf;rw[c];rcases this with q|q
 ·exact .inr q
 ·exact .inl q
section
variable{X:Cx}{scope:Scope}{N':List Str}{al:List (Option Nat)}{tg iter aS:Expr}{aF:List Expr}{wi:TI}{g:TG}{tc:TT}{te:TE}{pos:Pos}
def HP{i:Nat}{x:Str}{aC E:Pos}(hc:X.calm=true)(hk:scope.kind=.function)(G:∀y∈scope.names,y.2=.cell->scope.names.lookup y.1=some .cell)(P:∀y∈scope.names,y.2=.free->scope.names.lookup y.1=some .free)(Q:∀y∈scope.names,y.2=.local->scope.names.lookup y.1=some .local)(hfr:∀y∈scope.names,y.2=.free->X.env.kindOf y.1=some .cell\/X.env.kindOf y.1=some .free)(j:m5 X.N N' al scope)(hi:PI X tg iter wi)(hg:∀d C s₀ H₀ ex,PG (cxD X scope N' d C s₀ H₀ ex) tg g)(S:∀d C s₀ H₀ ex,gA (cxD X scope N' d C s₀ H₀ ex) aF tc)(T:∀d C s₀ H₀ ex,PE (cxD X scope N' d C s₀ H₀ ex) aS te)(U:∀x,foldedSetIterable iter X.env x=pure x)(W:X.N.Nodup)(r:X.N[i]?=some x)(hx:Loc X.env.scope x)(Y:X.fn x=true\/X.env.scope.names.lookup x=some .local)(Z:swapsWith (.ListComp aS [⟨tg,iter,aF,0⟩] scope pos) (some (.Name x aC)) E.line X.env=pure true):PS X (.Assign [.Name x aC] (.ListComp aS [⟨tg,iter,aF,0⟩] scope pos) E) (ee (i6 wi al g tc te) (zH i)):=by
 intro aa s σ H D I h;rw[exec_Assign_Name_used _ _ _ _ Z];refine Ad (wpAny_standAt (Ad ?_));show wpAny _ X.A (do let _ <-comprehension (.ListComp aS [⟨tg,iter,aF,0⟩] scope pos) scope X.env _ (newList []) (firstAsync [⟨tg,iter,aF,0⟩]) (firstIter [⟨tg,iter,aF,0⟩] X.env) (some (assign (.Name x aC) X.env))) _ _ s;refine Ad (wpAny_mono (Hx (use:=some (assign (.Name x aC) X.env)) (R:=fun _ s'=>SP X aa D .next s') hc hk G P Q hfr j hi hg S T U I h fun F C H' w f L q=>?_) (fun _ s' hq=>Ao (Ao hq)) fun _ _ e=>e);show wpAny _ X.A (assign (.Name x aC) X.env (.ref F)) _ _ w;refine wpAny_assign_Name (GU (v:=.ref F) (L.back w.heap (Heap.SameBut.refl _ _)) W r hx rfl (fun J I5 ⟨a,p,M⟩=>?_) Y);have O:C≠a:=by
  rcases M with e|e
  ·rw[e];exact L.nl
  ·exact fun z=>L.nc x a e z.symm
 obtain⟨m,hn⟩:=L.ns;refine⟨m,hn.sameBut p O,fun h' l=>⟨_,H',?_,q⟩⟩;refine I5.call' (s':={J with heap:=h'}) (ch:=[C]) rfl ⟨fun b o q n hb hx=>?_,fun b o q n hb hx=>?_,fun b o q n hx=>n,fun b o q hx=>?_,fun b xs q=>q,fun b o u q=>q,fun b ps q=>⟨#[],by simpa using q⟩⟩ ?_ I5.bare fun b hb=>?_
 ·exact(l.2 b (by simpa using hx)).trans q
 ·exact⟨o.slots,(l.2 b (by simpa using hx)).trans q⟩
 ·exact⟨o,(l.2 b (by simpa using hx)).trans q⟩
 ·intro b u e
  refine(I5.hok b u e).stay (fun c v hc q=>(l.2 c ?_).trans q) (fun _ q=>q) fun _ _ q=>q;rintro rfl;rcases hc with z|z
  ·rw[<-z,L.no] at e;cases e
  ·rw[L.no] at z;cases z
 ·have e:b=C:=by simpa using hb
  subst e;exact⟨.inr L.far,L.nl,L.nc,L.np⟩
def Np{i:Nat}{x:Str}{aC f:Pos}(hc:X.calm=true)(hk:scope.kind=.function)(c:∀y∈scope.names,y.2≠.cell)(h:∀y∈scope.names,y.2=.free->scope.names.lookup y.1=some .free)(j:∀y∈scope.names,y.2=.local->scope.names.lookup y.1=some .local)(hfr:∀y∈scope.names,y.2=.free->X.env.kindOf y.1=some .cell\/X.env.kindOf y.1=some .free)(b:m5 X.N N' al scope)(hi:PI X tg iter wi)(hg:∀a C s₀ H₀ ex,PG (dF X scope N' a C s₀ H₀ ex) tg g)(l:∀a C s₀ H₀ ex,gA (dF X scope N' a C s₀ H₀ ex) aF tc)(o:∀a C s₀ H₀ ex,PE (dF X scope N' a C s₀ H₀ ex) aS te)(p:∀x,foldedSetIterable iter X.env x=pure x)(q:X.N.Nodup)(d:X.N[i]?=some x)(hx:Loc X.env.scope x)(r:X.fn x=true\/X.env.scope.names.lookup x=some .local)(s:swapsWith (.ListComp aS [⟨tg,iter,aF,0⟩] scope pos) (some (.Name x aC)) f.line X.env=pure true):PS X (.Assign [.Name x aC] (.ListComp aS [⟨tg,iter,aF,0⟩] scope pos) f) (ee (i6 wi al g tc te) (zH i)):=
 HP hc hk (fun y hy e=>absurd e (c y hy)) h j hfr b hi (fun a C s₀ H₀ ex=>nf (X:=X) (N':=N') c a C s₀ H₀ ex▸hg a C s₀ H₀ ex) (fun a C s₀ H₀ ex=>nf (X:=X) (N':=N') c a C s₀ H₀ ex▸l a C s₀ H₀ ex) (fun a C s₀ H₀ ex=>nf (X:=X) (N':=N') c a C s₀ H₀ ex▸o a C s₀ H₀ ex) p q d hx r s
end
section
variable{X:Cx}{scope:Scope}{al:List (Option Nat)}{tg iter aS:Expr}{aF:List Expr}{wi:TI}{g:TG}{tc:TT}{te:TE}{pos:Pos}
def nH{i:Nat}{x:Str}{aC d:Pos}(e:X.N.Nodup)(c:X.N[i]?=some x)(hx:Loc X.env.scope x)(N N':List Str)(al:List (Option Nat))(hi:PI X tg iter wi)(hg:∀a C s₀ H₀ ex,PG (dF X scope N' a C s₀ H₀ ex) tg g)(f:∀a C s₀ H₀ ex,gA (dF X scope N' a C s₀ H₀ ex) aF tc)(h:∀a C s₀ H₀ ex,PE (dF X scope N' a C s₀ H₀ ex) aS te)(hc:X.calm=true:=by rfl)(hk:scope.kind=.function:=by rfl)(j:∀y∈scope.names,y.2≠.cell:=by decide +kernel)(l:∀y∈scope.names,y.2=.free->scope.names.lookup y.1=some .free:=by decide +kernel)(o:∀y∈scope.names,y.2=.local->scope.names.lookup y.1=some .local:=by decide +kernel)(hfr:∀y∈scope.names,y.2=.free->X.env.kindOf y.1=some .cell\/X.env.kindOf y.1=some .free)(p:X.N=N:=by rfl)(b:gK N N' al scope=true:=by decide +kernel)(q:∀x,foldedSetIterable iter X.env x=pure x:=by intro _;rfl)(r:X.fn x=true\/X.env.scope.names.lookup x=some .local:=by first|exact .inl rfl|exact .inr rfl|assumption)(s:swapsWith (.ListComp aS [⟨tg,iter,aF,0⟩] scope pos) (some (.Name x aC)) d.line X.env=pure true:=by rfl):PS X (.Assign [.Name x aC] (.ListComp aS [⟨tg,iter,aF,0⟩] scope pos) d) (ee (i6 wi al g tc te) (zH i)):=
 Np hc hk j l o hfr (EC (by rw[p];exact b)) hi hg f h q e c hx r s
end
end L2
end
section
namespace K22
open PySem L2
abbrev rv:Stmt:=top 11
abbrev kT:Stmt:=top 12
abbrev rx:Stmt:=top 13
def de:A4 "len"=some (.builtin "len"):=δ
def nI:A4 "all"=some (.builtin "all"):=δ
abbrev Rws(H:Hp)(rs:List Addr)(tb:Ξ):Prop:=Paired (fun a ns=>H a=some (.lst (ns.map V.int))) rs tb
def wid(tb:Ξ):Nat:=(tb[0]?.map List.length).getD 0
def cy(tb:Ξ):Bool:=decide (tb.length<=40)&&decide (wid tb<=40)&&tb.all fun r=>decide (r.length=wid tb)
def Rws.same{H H2:Hp}{rs:List Addr}{tb:Ξ}(h:Rws H rs tb)(s:Same H H2):Rws H2 rs tb:=Paired.mapP h fun _ _ e=>s _ _ e
def Rws.len{H:Hp}{rs:List Addr}{tb:Ξ}(h:Rws H rs tb):rs.length=tb.length:=by
 induction h with
 |nil=>rfl
 |cons _ _ ih=>rw[AO,AO,ih]
def Rws.get{H:Hp}{rs:List Addr}{tb:Ξ}(h:Rws H rs tb):∀{j:Nat}{a:Addr},rs[j]?=some a->∃ns,tb[j]?=some ns/\H a=some (.lst (ns.map V.int)):=by
 induction h with
 |nil=>intro j a e;simp at e
 |cons r t ih=>
  intro j a e;cases j with
  |zero=>simp at e;subst e;exact⟨_,rfl,r⟩
  |succ j=>simpa using ih (by simpa using e)
def zp{n:Nat}(h:n<=100000):n<=sizeLine:=by rw[sizeLine_eq];(first|lia|omega)
def A8{a:Type}{l:List a}{i:Nat}{x:a}(h:l[i]?=some x):l.take (i+1)=l.take i++[x]:=by rw[List.take_add_one,h];rfl
abbrev ED(K:Af):List V->Hp->VK->Prop:=fun xs H Q=>∃p ys,xs=[.ref p]/\(SqL K H p ys\/SqT K H p ys)/\Q (.int ys.length) H
def iv{b:List Addr}{i:Nat}{x:V}(h:(b.map V.ref)[i]?=some x):∃a,b[i]?=some a/\x=.ref a:=by
 rw[Aj] at h;cases e:b[i]? with
 |none=>rw[e] at h;cases h
 |some a=>rw[e] at h;cases h;exact⟨a,rfl,rfl⟩
section
variable{P:Program}{w:World}{K:Af}{mg:Str->Option Value}{base:Heap}
def HQ{H2:Hp}{L D:Addr}{rs:List Addr}{tb:Ξ}{Q:VK}{f:Type}{mkV:f->V}{g:List Int->f}{te:TE}{c:List (Option V)}(s:∀(o:Addr)(os:List Int)(H:Hp)(R:VK),Same H2 H->H o=some (.lst (os.map V.int))->os∈tb->(∀H',Same H H'->R (mkV (g os)) H')->te (some (.ref o)::c) H R)(u:SqL K H2 L (rs.map V.ref))(h:Rws H2 rs tb)(hz:tb.length<=1000)(i:H2 D=none)(k:∀b,Same H2 b->b D=some (.lst ((tb.map g).map mkV))->Q (.ref D) b):cm (dS K L) (zH 0) bx te (none::c) H2 D Q:=by
 have r:=h.len;refine zY (xs:=rs.map V.ref) (fun j σ ys b=>∃(v:Option V),σ=v::c/\Same H2 b/\b D=some (.lst ys)/\ys=((tb.take j).map g).map mkV) ?_ ?_ ?_ ?_
 ·exact⟨none,rfl,Same.new i,za,rfl⟩
 ·rintro j σ ys b ⟨v,rfl,sm,a,rfl⟩
  exact sm.seq u
 ·rintro j σ ys b x hx l hy ⟨v,rfl,sm,a,rfl⟩
  obtain⟨o,p,rfl⟩:=iv hx;obtain⟨os,e,q⟩:=h.get p;have hn:(rs.map V.ref).length<=sizeLine:=by rw[Aa];exact zp (by lia)
  refine cf ?_;refine s o os b _ sm (sm _ _ q) (Am e) fun w d=>bB hn l hy (d _ _ a) ⟨_,rfl,(sm.trans d).then i,za,?_⟩;rw[A8 e,Aq,Aq]
  rfl
 ·rintro σ ys b ⟨v,rfl,sm,a,rfl⟩
  rw[Aa,r,An (Ae _)] at a;exact k b sm a
def nK(K:Af):Sp:=fun vs H Q _=>∃L rs tb,vs=[.ref L]/\SqL K H L (rs.map V.ref)/\Rws H rs tb/\Q (.int (wid tb)) H
def Nq:zm ["table"] ["table"] (ze kT):=⟨rfl,rfl,rfl,δ,rfl,δ,δ⟩
def EE{f:Addr}{fd:FuncData}(F:Fun K "width_of" "width_of" kT f fd)(bl:mg "len"=none):ar P w K mg base aK 1 f fd ["table"] (nK K):=by
 refine F.ok Nq (fun vs H Q E h=>?_) (fun l A outer s H vs Q E hr h=>?_)
 ·obtain⟨L,rs,tb,rfl,_⟩:=h;rfl
 ·obtain⟨L,rs,tb,rfl,c,d,k⟩:=h
  refine⟨_,zg (zq (xn (zw iV (zi zo rfl bl de (af (pv 0) ah)) zd (av _)) (zi zo rfl bl de (af (zu zr (pv 0) zd (fun _ _=>rfl)) ah)) zd)),?_⟩;refine⟨_,rfl,L,_,rfl,.inl c,_,_,rfl,rfl,_,rfl,?_⟩;have i:=d.len;refine eh (fun h1=>?_) (fun h1=>?_)
  ·cases rs with
   |nil=>have:=of_decide_eq_true h1;simp at this
   |cons a r=>
    obtain⟨ns,e,g⟩:=d.get (j:=0) rfl;refine⟨_,rfl,L,_,_,_,rfl,rfl,c,zh (j:=0) rfl,a,_,rfl,.inl (SqL.of g),?_⟩;have:wid tb=ns.length:=by unfold wid;rw[e];rfl
    rw[this] at k;rw[Aa];exact k
  ·cases rs with
   |cons a r=>have:=of_decide_eq_false (Bool.eq_false_iff.mpr h1);simp at this
   |nil=>
    cases tb with
    |nil=>exact k
    |cons a b=>cases i
def HR(K:Af):Sp:=fun vs H Q _=>∃L rs tb,vs=[.ref L]/\SqL K H L (rs.map V.ref)/\Rws H rs tb/\tb.length<=1000/\∀H',Same H H'->Q (.bl (cy tb)) H'
def Nr:zm ["table"] ["table"] (ze rv):=⟨rfl,rfl,rfl,δ,rfl,δ,δ⟩
abbrev EF(K:Af):TE:=bI Ea (mX (ED K) (zO (aw 0) bL)) (fY (nK K) [] E0 (zO (aw 1) bL))
def Nt{f d:Addr}{fd j:FuncData}(F:Fun K "is_table" "is_table" rv f fd)(bl:mg "len"=none)(J:mg "all"=none){tr tc:Tok}(M:mg "MOST_ROWS"=some (.int 40 tr))(N:mg "MOST_COLUMNS"=some (.int 40 tc))(Fw:Fun K "width_of" "width_of" kT d j)(p:Binds K j ["table"] [])(q:mg "width_of"=some (.ref d)):ar P w K mg base aK 2 f fd ["table"] (HR K):=by
 have u:ar P w K mg base aK 1 d j ["table"] (nK K):=EE Fw bl;refine F.ok Nr (fun vs H Q E h=>?_) (fun S A outer s H vs Q E hr h=>?_)
 ·obtain⟨L,rs,tb,rfl,_⟩:=h;rfl
 ·obtain⟨L,rs,tb,rfl,a,b,hz,k⟩:=h
  refine⟨_,zb (cT (PW.pt (mJ (zw iV (zi zo rfl bl de (af (pv 0) ah)) (ib (v:=.int 40) rfl M ⟨_,rfl⟩) (av _))
    (pB (zw iV (zf u hr rfl q Fw.kp p .nil ak (af (pv 0) ah)) (ib (v:=.int 40) rfl N ⟨_,rfl⟩) (av _))))) (zg (zq mE)) zL)
   (zg (zq (zi (nq rfl) rfl J nI (af (zx ["table"] ["row","table"] [none,some 0] (zF (pv 0)) (fun l C s₀ H₀ ex=>zl (i:=0) (bF ["row","table"]) rfl (Or.inl rfl)) (fun l C s₀ H₀ ex=>zA)
    (fun l C s₀ H₀ ex=>iY fX (zi zo rfl bl de (af (pv 0) ah)) (zf u hr rfl q Fw.kp p .nil ak (af (pv 1) ah)) (av _)) (te:=EF K) (hfr:=a_ (ze rv) δ)) ah)))),?_⟩
  have I:=b.len;refine⟨_,rfl,L,_,rfl,.inl a,_,_,rfl,rfl,_,rfl,?_⟩;rw[Aa,I]
  by_cases c1:40<tb.length
  ·rw[decide_eq_true (show(40:Int)<(tb.length:Int) from ω)]
   refine aW (aW ?_);have:cy tb=false:=by unfold cy;rw[decide_eq_false ω];rfl
   rw[this] at k;exact k H (Same.refl H)
  rw[decide_eq_false (show ¬(40:Int)<(tb.length:Int) from ω)];refine aR ⟨_,rfl,L,rs,tb,rfl,a,b,_,_,rfl,rfl,_,rfl,?_⟩
  by_cases c2:40<wid tb
  ·rw[decide_eq_true (show(40:Int)<(wid tb:Int) from ω)]
   refine aW ?_;have:cy tb=false:=by unfold cy;rw[decide_eq_false (show ¬wid tb<=40 from ω),Bool.and_false];rfl
   rw[this] at k;exact k H (Same.refl H)
  rw[decide_eq_false (show ¬(40:Int)<(wid tb:Int) from ω)];refine aR ⟨_,rfl,L,rfl,⟨_,a⟩,fun D x=>?_⟩;refine zy (HQ (mkV:=V.bl) (g:=fun r=>decide (r.length=wid tb)) (fun o os H' R sm y _ z=>?_) a b hz x fun O G c=>?_)
  ·refine⟨_,rfl,o,_,rfl,.inl (SqL.of y),_,rfl,L,rs,tb,rfl,sm.seq a,b.same sm,rfl,?_⟩
   rw[Aa];have:=z H' (Same.refl H');rw[show decide (V.int (os.length:Int)=V.int (wid tb:Int))=decide (os.length=wid tb) from by rw[Bool.eq_iff_iff];simp;(first|lia|omega)];exact this
  ·refine⟨D,_,rfl,SqL.of c,?_⟩
   have e:cy tb=(tb.map fun r=>decide (r.length=wid tb)).all id:=by
    unfold cy;rw[decide_eq_true (show tb.length<=40 from ω),decide_eq_true (show wid tb<=40 from ω),List.all_map];rfl
   rw[e] at k;exact k O G
end
abbrev ry:Stmt:=top 14
abbrev nO:Stmt:=top 15
abbrev gM:Stmt:=top 16
section
variable{P:Program}{w:World}{K:Af}{mg:Str->Option Value}{base:Heap}
def Nu:zm ["table"] ["table"] (ze rx):=⟨rfl,rfl,rfl,δ,rfl,δ,δ⟩
end
def Rws.upd{H:Hp}{ds:List Addr}{tb:Ξ}{D:Addr}{o:HO}(h:Rws H ds tb):(∀d∈ds,d≠D)->Rws (upd H D o) ds tb:=by
 induction h with
 |nil=>intro _;exact .nil
 |cons r t ih=>intro n;exact .cons (by rw[ao (n _ (At))];exact r) (ih fun d hd=>n d (Ay _ hd))
def Rws.snoc{H:Hp}{ds:List Addr}{tb:Ξ}{d:Addr}{ns:List Int}(h:Rws H ds tb)(e:H d=some (.lst (ns.map V.int))):Rws H (ds++[d]) (tb++[ns]):=by
 induction h with
 |nil=>exact .cons e .nil
 |cons r t ih=>exact .cons r ih
def Rws.there{H:Hp}{ds:List Addr}{tb:Ξ}(h:Rws H ds tb):∀d∈ds,H d≠none:=by
 induction h with
 |nil=>intro d hd;cases hd
 |cons r t ih=>
  intro d hd;rcases List.mem_cons.mp hd with rfl|hd
  ·rw[r];simp
  ·exact ih d hd
section
variable{P:Program}{w:World}{K:Af}{mg:Str->Option Value}{base:Heap}
def rH{H2 c p:Hp}{D d:Addr}{ds:List Addr}{l:Ξ}{ns:List Int}(sm:Same H2 c)(hr:Rws c ds l)(s:ds.Nodup)(hn:∀e∈ds,H2 e=none/\e≠D)(u:Same c p)(hd:c d=none)(j:c D≠none)(v:p d=some (.lst (ns.map V.int))){o:HO}:Rws (L2.upd p D o) (ds++[d]) (l++[ns])/\(ds++[d]).Nodup/\∀e∈ds++[d],H2 e=none/\e≠D:=by
 have g:H2 d=none:=by
  cases q:H2 d with
  |none=>rfl
  |some o=>rw[sm _ _ q] at hd;cases hd
 have i:d≠D:=fun z=>j (z▸hd);have all:∀e∈ds++[d],H2 e=none/\e≠D:=fun e f=>by
  rcases List.mem_append.mp f with h|h
  ·exact hn e h
  ·obtain rfl:e=d:=by simpa using h
   exact⟨g,i⟩
 refine⟨((hr.same u).snoc v).upd fun e f=>(all e f).2,?_,all⟩;rw[List.nodup_append];refine⟨s,by simp,fun a r b hb=>?_⟩;obtain rfl:b=d:=by simpa using hb
 intro z;exact hr.there a r (z▸hd)
def nP{H2:Hp}{L D:Addr}{rs:List Addr}{tb:Ξ}{Q:VK}{g:List Int->List Int}{te:TE}{c:List (Option V)}(C:∀(o:Addr)(os:List Int)(H:Hp)(R:VK),Same H2 H->H o=some (.lst (os.map V.int))->os∈tb->(∀d H',Same H H'->H d=none->H' d=some (.lst ((g os).map V.int))->R (.ref d) H')->te (some (.ref o)::c) H R)(E:SqL K H2 L (rs.map V.ref))(i:Rws H2 rs tb)(hz:tb.length<=1000)(l:H2 D=none)(k:∀a ds,Same H2 a->a D=some (.lst (ds.map V.ref))->Rws a ds (tb.map g)->ds.Nodup->(∀d∈ds,H2 d=none/\d≠D)->Q (.ref D) a):cm (dS K L) (zH 0) bx te (none::c) H2 D Q:=by
 have z:=i.len;refine zY (xs:=rs.map V.ref) (fun j σ ys a=>∃(v:Option V)(ds:List Addr),σ=v::c/\Same H2 a/\a D=some (.lst ys)/\ys=ds.map V.ref/\Rws a ds ((tb.take j).map g)/\ds.Nodup/\∀d∈ds,H2 d=none/\d≠D) ?_ ?_ ?_ ?_
 ·exact⟨none,[],rfl,Same.new l,za,rfl,.nil,.nil,fun d hd=>by cases hd⟩
 ·rintro j σ ys a ⟨v,ds,rfl,sm,_⟩
  exact sm.seq E
 ·rintro j σ ys a x hx q hy ⟨v,ds,rfl,sm,b,rfl,hr,f,hn⟩
  obtain⟨o,r,rfl⟩:=iv hx;obtain⟨os,h,s⟩:=i.get r;have A:(rs.map V.ref).length<=sizeLine:=by rw[Aa];exact zp ω
  refine cf ?_;refine C o os a _ sm (sm _ _ s) (Am h) fun d F e hd p=>?_;obtain⟨u,w,y⟩:=rH (D:=D) (o:=.lst (ds.map V.ref++[.ref d])) sm hr f hn e hd (by rw[b];simp) p;refine bB A q hy (e _ _ b) ⟨_,ds++[d],rfl,(sm.trans e).then l,za,by simp,?_,w,y⟩;rw[A8 h,Aq];exact u
 ·rintro σ ys a ⟨v,ds,rfl,sm,b,rfl,hr,f,hn⟩
  rw[Aa,z,An (Ae _)] at hr;exact k a ds sm b hr f hn
def HS{H2:Hp}{D:Addr}{n:Nat}{Q:VK}{g:Nat->List Int}{te:TE}{c:List (Option V)}(u:∀(j:Nat)(H:Hp)(R:VK),j<n->Same H2 H->(∀d H',Same H H'->H d=none->H' d=some (.lst ((g j).map V.int))->R (.ref d) H')->te (some (.int j)::c) H R)(hz:n<=1000)(l:H2 D=none)(k:∀a ds,Same H2 a->a D=some (.lst (ds.map V.ref))->Rws a ds ((Ah n).map g)->ds.Nodup->(∀d∈ds,H2 d=none/\d≠D)->Q (.ref D) a):cm (eY 0 n) (zH 0) bx te (none::c) H2 D Q:=by
 refine nu (fun j σ ys a=>∃(v:Option V)(ds:List Addr),σ=v::c/\Same H2 a/\a D=some (.lst ys)/\ys=ds.map V.ref/\Rws a ds (((Ah n).take j).map g)/\ds.Nodup/\∀d∈ds,H2 d=none/\d≠D) ?_ ?_ ?_
 ·exact⟨none,[],rfl,Same.new l,za,rfl,.nil,.nil,fun d hd=>by cases hd⟩
 ·rintro j σ ys a h hy ⟨v,ds,rfl,sm,b,rfl,hr,i,hn⟩
  have e:(Ah n)[j]?=some j:=AQ h;refine cf ?_;rw[show(0:Int)+((j:Nat):Int)=((j:Nat):Int) from ω];refine u j a _ h sm fun d w f hd p=>?_;obtain⟨q,r,s⟩:=rH (D:=D) (o:=.lst (ds.map V.ref++[.ref d])) sm hr i hn f hd (by rw[b];simp) p;refine bB (zp ω) h hy (f _ _ b) ⟨_,ds++[d],rfl,(sm.trans f).then l,za,by simp,?_,r,s⟩;rw[A8 e,Aq];exact q
 ·rintro σ ys a ⟨v,ds,rfl,sm,b,rfl,hr,i,hn⟩
  rw[An (by simp)] at hr;exact k a ds sm b hr i hn
def colAt(tb:Ξ)(k:Nat):List Int:=tb.map fun r=>r.getD k 0
def EG(K:Af):Sp:=fun vs H Q _=>∃L rs tb,∃k:Nat,vs=[.ref L,.int k]/\SqL K H L (rs.map V.ref)/\Rws H rs tb/\tb.length<=1000/\(∀r∈tb,k<r.length)/\∀D H',Same H H'->H D=none->H' D=some (.lst ((colAt tb k).map V.int))->Q (.ref D) H'
def Nv:zm ["table","k"] ["table","k"] (ze gM):=⟨rfl,rfl,rfl,δ,rfl,δ,δ⟩
def Nw{f:Addr}{fd:FuncData}(F:Fun K "column_of" "column_of" gM f fd):ar P w K mg base aK 1 f fd ["table","k"] (EG K):=by
 refine F.ok Nv (fun vs H Q E h=>?_) (fun z A outer s H vs Q E hr h=>?_)
 ·obtain⟨L,rs,tb,i,rfl,_⟩:=h;rfl
 ·obtain⟨L,rs,tb,i,rfl,e,x,hz,hi,k⟩:=h
  refine⟨_,zg (zq (zx ["table","k"] ["row","k"] [none,some 1] (zF (pv 0)) (fun c C s₀ H₀ ex=>zl (i:=0) (bF ["row","k"]) rfl (Or.inl rfl)) (fun c C s₀ H₀ ex=>zA)
   (fun c C s₀ H₀ ex=>zu zr (pv 0) (pv 1) (fun _ _=>rfl)) (te:=bI (fA K) (aw 0) (aw 1)) (hfr:=a_ (ze gM) δ))),?_⟩
  refine⟨_,rfl,L,rfl,⟨_,e⟩,fun D d=>?_⟩;refine zy (HQ (mkV:=V.int) (g:=fun r=>r.getD i 0) (fun o os H' R sm l p q=>?_) e x hz d fun y u b=>k D y u d b);have a:=hi os p;refine⟨_,rfl,_,rfl,o,_,_,_,rfl,rfl,SqL.of l,zh (j:=i) (v:=V.int (os.getD i 0)) ?_,q H' (Same.refl H')⟩;rw[Aj,Ac a,Ab,Ac a]
  rfl
end
def turn(tb:Ξ):Ξ:=(Ah (wid tb)).map (colAt tb)
def B'{tb:Ξ}(h:cy tb=true):tb.length<=40/\wid tb<=40/\∀r∈tb,r.length=wid tb:=by
 unfold cy at h;simp only[AU,decide_eq_true_eq,AY] at h;exact⟨h.1.1,h.1.2,h.2⟩
section
variable{P:Program}{w:World}{K:Af}{mg:Str->Option Value}{base:Heap}
def Cg(H:Hp)(Q:VK)(tb:Ξ):Prop:=∀D H' ds,Same H H'->H D=none->H' D=some (.lst (ds.map V.ref))->Rws H' ds tb->ds.Nodup->(∀d∈ds,H d=none/\d≠D)->Q (.ref D) H'
def EH(K:Af):Sp:=fun vs H Q _=>∃L rs tb,∃n:Nat,vs=[.ref L,.int n]/\SqL K H L (rs.map V.ref)/\Rws H rs tb/\tb.length<=1000/\n<=1000/\(∀r∈tb,n<=r.length)/\Cg H Q ((Ah n).map (colAt tb))
def Nx:zm ["table","width"] ["table","width"] (ze nO):=⟨rfl,rfl,rfl,δ,rfl,δ,δ⟩
def Ny{f c:Addr}{fd e:FuncData}(F:Fun K "columns_to" "columns_to" nO f fd)(J:mg "range"=none)(Fc:Fun K "column_of" "column_of" gM c e)(M:Binds K e ["table","k"] [])(N:mg "column_of"=some (.ref c)):ar P w K mg base aK 2 f fd ["table","width"] (EH K):=by
 have T:ar P w K mg base aK 1 c e ["table","k"] (EG K):=Nw Fc;refine F.ok Nx (fun vs H Q E h=>?_) (fun U A outer s H vs Q E hr h=>?_)
 ·obtain⟨L,rs,tb,n,rfl,_⟩:=h;rfl
 ·obtain⟨L,rs,tb,n,rfl,z,G,hz,hn,I,k⟩:=h
  refine⟨_,zg (zq (zx ["table","width"] ["k","table"] [none,some 0] (kn rfl J (af (pv 1) ah)) (fun l C s₀ H₀ ex=>zl (i:=0) (bF ["k","table"]) rfl (Or.inl rfl)) (fun l C s₀ H₀ ex=>zA)
   (fun l C s₀ H₀ ex=>zf T hr rfl N Fc.kp M .nil ak (af (pv 1) (af (pv 0) ah))) (te:=fY (EG K) [] E0 (zO (aw 1) (zO (aw 0) bL))) (hfr:=a_ (ze nO) δ))),?_⟩
  refine⟨_,rfl,_,rfl,ω,ω,fun D o=>?_⟩;refine HS (n:=n) (g:=colAt tb) (fun j H' R p sm q=>⟨_,rfl,_,rfl,L,rs,tb,j,rfl,sm.seq z,G.same sm,ω,fun r hr=>Av p (I r hr),fun d O u hd v=>q d O u hd v⟩) ω o fun S ds x a b y hn=>k D S ds x o a b y hn
def EI(K:Af):Sp:=fun vs H Q _=>∃L rs tb,vs=[.ref L]/\SqL K H L (rs.map V.ref)/\Rws H rs tb/\cy tb=true/\Cg H Q (turn tb)
def Nz:zm ["table"] ["table"] (ze ry):=⟨rfl,rfl,rfl,δ,rfl,δ,δ⟩
def NA{f b c:Addr}{fd d e:FuncData}(F:Fun K "columns_of" "columns_of" ry f fd)(bl:mg "len"=none)(Fc:Fun K "columns_to" "columns_to" nO b d)(o:Binds K d ["table","width"] [])(p:mg "columns_to"=some (.ref b))(x:ar P w K mg base aK 2 b d ["table","width"] (EH K))(Fw:Fun K "width_of" "width_of" kT c e)(q:Binds K e ["table"] [])(u:mg "width_of"=some (.ref c)):ar P w K mg base aK 3 f fd ["table"] (EI K):=by
 have v:ar P w K mg base aK 1 c e ["table"] (nK K):=EE Fw bl;refine F.ok Nz (fun vs H Q E h=>?_) (fun y A outer s H vs Q E hr h=>?_)
 ·obtain⟨L,rs,tb,rfl,_⟩:=h;rfl
 ·obtain⟨L,rs,tb,rfl,g,i,j,k⟩:=h
  obtain⟨z,C,l⟩:=B' j;have a:Room 1 _:=hr.mono ξ;refine⟨_,zg (zq (zf x hr rfl p Fc.kp o .nil ak (af (pv 0) (af (zf v a rfl u Fw.kp q .nil ak (af (pv 0) ah)) ah)))),?_⟩;exact⟨_,rfl,_,rfl,L,rs,tb,rfl,g,i,L,rs,tb,wid tb,rfl,g,i,ω,ω,fun r hr=>by rw[l r hr];exact Ae _,k⟩
end
end K22
end
section
namespace L2
open PySem PySem.Spec PyProof.Rows
def dy(K:Af)(a b:Addr):It:=
 ⟨fun i H=>∃xs ys,SqL K H a xs/\SqL K H b ys/\i<min xs.length ys.length,
  fun i H v H'=>∃p x y,v=.ref p/\H p=none/\H'=upd H p (.tup [x,y])/\(∀xs,SqL K H a xs->xs[i]?=some x)/\∀ys,SqL K H b ys->ys[i]?=some y,
  fun i H=>∃xs ys,SqL K H a xs/\SqL K H b ys/\i=min xs.length ys.length⟩
def NB{P:Program}{w:World}{K:Af}{aQ:List Expr}{k:Nat}{pos:Pos}(C D z TI TO i1 i2:Addr)(hd:TI≠z/\TO≠z/\TI≠TO/\TI≠i1/\TI≠i2/\z≠i1/\z≠i2/\TO≠i1/\TO≠i2/\i1≠i2):Turn P w K (.Tuple aQ k pos) (dy K C D) [z,TI,TO,i1,i2] z (fun i h=>IsZip h z TI TO .none/\IsPair h TI (.ref i1) (.ref i2)/\(∃a b,IsPair h TO a b)/\h.IsListIter i1 C i/\h.IsListIter i2 D i):=by
 obtain⟨d1,d2,d3,d4,d5,d6,d7,d8,d9,N⟩:=hd;refine Ew (wr:=[z,TO,i1,i2]) (by simp) (fun i h st b hb=>?_) (fun i h h' st c=>?_) (fun b hb=>?_) (fun X hP hw hK hc i aa s σ H I M st jc=>?_) fun A i s Q E st h=>wpAny_pyIter_zip st.1 h
 ·obtain⟨a1,a2,⟨a,b',a3⟩,⟨o4,a4,_,F⟩,⟨o5,a5,_,e5⟩⟩:=st
  simp at hb;rcases hb with rfl|rfl|rfl|rfl|rfl
  ·exact⟨_,a1,fun v z=>by cases z⟩
  ·exact⟨_,a2,fun v z=>by cases z⟩
  ·exact⟨_,a3,fun v z=>by cases z⟩
  ·exact⟨_,a4,fun v z=>by rw[F] at z;cases z⟩
  ·exact⟨_,a5,fun v z=>by rw[e5] at z;cases z⟩
 ·obtain⟨a1,a2,⟨a,b',a3⟩,a4,a5⟩:=st
  exact⟨c z (by simp) _ a1,c TI (by simp) _ a2,⟨a,b',c TO (by simp) _ a3⟩,a4.at fun o e=>c i1 (by simp) o e,a5.at fun o e=>c i2 (by simp) o e⟩
 ·simp at hb ⊢
  rcases hb with rfl|rfl|rfl|rfl<;>simp
 ·subst hP hw hK
  have hd:∃xs ys,SqL X.K H C xs/\SqL X.K H D ys:=by
   rcases jc with ⟨xs,ys,a,b,_⟩|⟨xs,ys,a,b,_⟩
   ·exact⟨xs,ys,a,b⟩
   ·exact⟨xs,ys,a,b⟩
  obtain⟨xs,ys,d,l⟩:=hd;obtain⟨us,O,p1,_⟩:=I.list d;obtain⟨S,T,p2,_⟩:=I.list l;have U:=O.length;have W:=T.length;have Y:=I.ok.hd hc;obtain⟨a1,a2,a3,a4,a5⟩:=st;have f:=fun b hb=>Ev I (M b hb) d;have f':=fun b hb=>Ev I (M b hb) l;have AP:Zp.Apart z TI TO i1 i2 [i1,C] [i2,D]:=by
   refine⟨?_,?_,?_,?_,by simp,by simp,?_,?_,d1,d2,d3,d4,d5⟩
   ·simp;exact⟨d6,(f z (by simp)).symm⟩
   ·simp;exact⟨d7,(f' z (by simp)).symm⟩
   ·simp;exact⟨d8,(f TO (by simp)).symm⟩
   ·simp;exact⟨d9,(f' TO (by simp)).symm⟩
   ·simp;exact⟨N,(f' i1 (by simp)).symm⟩
   ·simp;exact⟨N.symm,(f i2 (by simp)).symm⟩
  have WZ:=Zp.HA (prog:=X.prog) (w:=X.w) (A:=X.A) (Draws.list (A:=X.A.in1) Y i1 C (f i1 (by simp)) us.toArray) (Draws.list (A:=X.A.in1) Y i2 D (f' i2 (by simp)) S.toArray) AP;refine⟨_,_,_,_,_,WZ,⟨a1,a2,a3,⟨a4,p1.isList⟩,⟨a5,p2.isList⟩⟩,fun j h st=>⟨st.1,st.2.1,st.2.2.1,st.2.2.2.1.1,st.2.2.2.2.1⟩,fun g=>?_,fun g=>?_⟩
  ·obtain⟨q,r,G,J,hi⟩:=g
   have e1:=I.list_inj G d;have e2:=I.list_inj J l;subst e1 e2;refine⟨by simpa[<-U,<-W] using hi,fun aG hp=>?_⟩;obtain⟨x,y,px,py,rfl⟩:=hp;have iJ:us[i]?=some x:=by simpa using px
   have L:S[i]?=some y:=by simpa using py
   have lx:i<q.length:=by lia
   have ly:i<r.length:=by lia
   have Z:q[i]?=some q[i]:=by simp[lx]
   have gy:r[i]?=some r[i]:=by simp[ly]
   obtain⟨u,e3,ru⟩:=O.get Z;obtain⟨u',F,cQ⟩:=T.get gy;rw[iJ] at e3;cases e3;rw[L] at F;cases F;refine⟨[q[i],r[i]],.cons ru (.cons cQ .nil),cR,fun p hp=>⟨p,_,_,rfl,hp,rfl,fun zs hz=>?_,fun zs hz=>?_⟩⟩
   ·rw[I.list_inj hz d];exact Z
   ·rw[I.list_inj hz l];exact gy
  ·obtain⟨q,r,G,J,hi⟩:=g
   have e1:=I.list_inj G d;have e2:=I.list_inj J l;subst e1 e2
   simpa[<-U,<-W] using hi
def NC(l1 l2:Addr)(xs ys:Array Value):Meets (Builtin.«zip.__new__» ⟨[.type "zip",.ref l1,.ref l2],[]⟩) (fun _ R s=>s.heap.IsList l1 xs/\s.heap.IsList l2 ys/\
   ∀h',IsZip h' (s⁻¹+4) (s⁻¹+2) (s⁻¹+3) .none->IsPair h' (s⁻¹+2) (.ref s⁻¹) (.ref (s⁻¹+1))->
   IsPair h' (s⁻¹+3) .none .none->h'.IsListIter s⁻¹ l1 0->h'.IsListIter (s⁻¹+1) l2 0->
   (∀c o,s.heap.get? c=some o->h'.get? c=some o)->R (.ok (.ret (.ref (s⁻¹+4)))) {s with heap:=h'}):=
 .of_wp fun prog w A R s h=>by
  obtain⟨hp,g,d,tk,os⟩:=s;obtain⟨b,e,h⟩:=h;have j:=sub_zip;have f:Heap.IsList (Shared.heap ⟨hp,g,d,tk,os⟩) l1 xs:=b;have i:Heap.IsList (Shared.heap ⟨hp.push {cls:=.type "list_iterator",data:=.fields #[.ref l1,.int 0 0]},g,d,tk,os⟩) l2 ys:=Heap.IsList.push e _
  wp_walk using wpAny_pyIter_list f,wpAny_pyIter_list i
  refine⟨_,rfl,?_⟩;dsimp only at h ⊢;have a:∀(h:Heap)(o:Obj),(h.push o).objs.size=h.objs.size+1:=fun h o=>Heap.size_push ..;simp only[a,Nat.add_assoc,Nat.reduceAdd];refine h _ ?_ ?_ ?_ ?_ ?_ fun c o x=>Ai _ (Ai _ (Ai _ (Ai _ (Ai _ x))))
  ·exact Heap.get?_push_at (by simp only[a]) rfl
  ·exact Ai _ (Ai _ (Heap.get?_push_at (by simp only[a]) rfl))
  ·exact Ai _ (Heap.get?_push_at (by simp only[a]) rfl)
  ·exact⟨_,Ai _ (Ai _ (Ai _ (Ai _ (AK _ rfl)))),rfl,rfl⟩
  ·exact⟨_,Ai _ (Ai _ (Ai _ (Heap.get?_push_at (by simp only[a]) rfl))),rfl,rfl⟩
section
variable{X:Cx}{aQ:List Expr}{k:Nat}{cN:Pos}
def ND(K:Af)(ta:TA):TI:=fun σ H R=>ta σ H fun vs H1=>∃a b,vs=[.ref a,.ref b]/\(∃xs,SqL K H1 a xs)/\(∃ys,SqL K H1 b ys)/\R (dy K a b) H1
def rK{a b:Expr}{ta:TA}{p pos:Pos}(hg:Gl X "zip")(C:X.mg "zip"=none)(D:A4 "zip"=some (.type "zip"))(E:PA X [a,b] ta)(G:starEach [a,b] X.env=[(false,eval a X.env),(false,eval b X.env)]:=by rfl)(j:starEach [b] X.env=[(false,eval b X.env)]:=by rfl):PI X (.Tuple aQ k cN) (.Call (.Name "zip" p) [a,b] [] pos) (ND X.K ta):=by
 intro aa s σ H R I h;refine Call_ (iP I hg C D (PyProof.Rows.callWith_type1 (aT (E pos aa s σ H _ I h) fun us c ⟨vs,H1,I1,l,d⟩=>?_) (by rw[G,j]) (by rw[j];rfl)));obtain⟨f,g,e,⟨xs,d⟩,⟨ys,r⟩,q⟩:=d;subst e;obtain⟨u,L,rfl,v,w⟩:=vals2 l;cases v;cases w;obtain⟨x,_,y,_⟩:=I1.list d;obtain⟨A,_,p2,_⟩:=I1.list r;refine callType_new F.called_zip ξ (F.typeCall_zip_2 _ _) (F.newCall_zip_2 _ _) (fun obj=>F.args_object_init_3 obj _ _) F.entry_zip_new (NC f g x.toArray A.toArray) ⟨y.isList,p2.isList,fun h' a1 a2 a3 a4 a5 o=>?_⟩;refine⟨⟨_,a1,rfl⟩,wpAny_pyIter_zip a1 ?_⟩;have J:Inv X aa σ H1 {c with heap:=h'}:=I1.kept (t':=c.toks) o;refine⟨c⁻¹+4,[c⁻¹+4,c⁻¹+2,c⁻¹+3,c⁻¹,c⁻¹+1],_,_,H1,rfl,J,NB f g _ _ _ _ _ (by refine⟨?_,?_,?_,?_,?_,?_,?_,?_,?_,?_⟩<;>(intro z;have M:(_:Nat)=_:=z;lia)),⟨a1,a2,⟨_,_,a3⟩,a4,a5⟩,fun b hb=>?_,q⟩;have i:c⁻¹<=b:=by
  simp only[List.mem_cons,List.not_mem_nil,or_false] at hb;rcases hb with rfl|rfl|rfl|rfl|rfl
  ·exact Bb _ _
  ·exact Bb _ _
  ·exact Bb _ _
  ·exact Ae _
  ·exact Bb _ _
 exact I1.fpOk i (I1.hok.fresh i)
end
section
variable{K:Af}{a:Addr}{xs:List V}{g:TG}{tc:TT}{te:TE}{σ:St}{H1:Hp}{Q:VK}{D:Addr}
def EJ{e f:Addr}{ys:List V}(a:Nat->St->List V->Hp->Prop)(q:a 0 σ [] (upd H1 D (.lst [])))(c:∀i σ zs H,a i σ zs H->SqL K H e xs/\SqL K H f ys)(r:∀i σ zs H p x y,xs[i]?=some x->ys[i]?=some y->i<min xs.length ys.length->zs.length<=i->a i σ zs H->H p=none->g (.ref p) σ (upd H p (.tup [x,y])) fun d s=>tc d s fun b h=>if b=true then te d h (fE (min xs.length ys.length) a D i d) else c5 (min xs.length ys.length) a i d h)(hd:∀σ zs H,a (min xs.length ys.length) σ zs H->Q (.ref D) H):cm (dy K e f) g tc te σ H1 D Q:=by
 refine rg (min xs.length ys.length) a q (fun σ zs H p=>⟨xs,ys,(c _ _ _ _ p).1,(c _ _ _ _ p).2,rfl⟩) (fun i σ zs H hi p=>⟨xs,ys,(c _ _ _ _ p).1,(c _ _ _ _ p).2,hi⟩) (fun i σ zs H v H' hi hy p y=>?_) hd;obtain⟨pp,x,j,rfl,hp,rfl,l,o⟩:=y;exact r i σ zs H pp x j (l xs (c _ _ _ _ p).1) (o ys (c _ _ _ _ p).2) hi hy p hp
end
def ey(i j:Int):Prop:=∃m n:Nat,i.natAbs<2 ^ m/\j.natAbs<2 ^ n/\m+n<=134217728
def HU(i j:Int):Prop:=0<j/\j.natAbs<2 ^ 9000
section
variable{X:Cx}
def nQ:cx X (binaryOp .Mult) (rI ey fun i j=>.int (i*j)):=mT fun i j _ _ _ _ _ hc q=>by
 obtain⟨m,n,h1,h2,a⟩:=hc;exact mul_int q (IntMulOk.of_le (intBits_le_iff.mpr h1) (intBits_le_iff.mpr h2) a)
def Ci:cx X (binaryOp .FloorDiv) (rI HU fun i j=>.int (i / j)):=mT fun i j _ _ _ _ _ hc q=>by
 have h1:(0:Int)<j:=hc.1;refine floordiv_int ω (by rw[Int.fdiv_eq_ediv_of_nonneg i ω];exact q) (.inl (PyProof.noPylong_of_log2 ?_));have a:j.natAbs≠0:=ω
 exact(Nat.log2_lt a).mpr hc.2
end
end L2
namespace K22
open PySem L2
abbrev j4:Stmt:=top 36
abbrev rZ:Stmt:=top 39
def eV{ns:List Int}{i:Nat}{x:V}(h:(ns.map V.int)[i]?=some x):∃n,ns[i]?=some n/\x=.int n:=by
 rw[Aj] at h;cases e:ns[i]? with
 |none=>rw[e] at h;cases h
 |some a=>rw[e] at h;cases h;exact⟨a,rfl,rfl⟩
def nR:A4 "zip"=some (.type "zip"):=δ
def cV(rn:List Int)(q:Int)(on:List Int):List Int:=AH (fun a b=>a-q*b) rn on
def ba(p:Int)(rn:List Int)(q:Int)(on:List Int):List Int:=AH (fun a b=>p*a+q*b) rn on
def nV(H:Hp)(Q:VK)(ns:List Int):Prop:=∀D H',Same H H'->H D=none->H' D=some (.lst (ns.map V.int))->Q (.ref D) H'
section
variable{P:Program}{w:World}{K:Af}{mg:Str->Option Value}{base:Heap}
def HV{H2:Hp}{r o D:Addr}{rn on:List Int}{f:Int->Int->Int}{te:TE}{c:List (Option V)}{Q:VK}(v:∀(a b:Int)(H:Hp)(R:VK),a∈rn->b∈on->R (.int (f a b)) H->te (some (.int a)::some (.int b)::c) H R)(h1:H2 r=some (.lst (rn.map V.int)))(h2:H2 o=some (.lst (on.map V.int)))(n2:on.length<=1000)(s:H2 D=none)(k:∀d,Same H2 d->d D=some (.lst ((AH f rn on).map V.int))->Q (.ref D) d):cm (dy K r o) (cw K 2 (cz (zH 0) (cz (zH 1) cv))) bx te (none::none::c) H2 D Q:=by
 refine EJ (K:=K) (xs:=rn.map V.int) (ys:=on.map V.int) (fun i σ zs d=>∃j l,σ=j::l::c/\Same H2 d/\d D=some (.lst zs)/\zs=((AH f rn on).take i).map V.int)
  ⟨none,none,rfl,Same.new s,za,rfl⟩ (fun i σ zs d ⟨_,_,_,sm,_⟩=>⟨SqL.of (sm _ _ h1),SqL.of (sm _ _ h2)⟩) ?_ ?_
 ·rintro i σ zs d u w x e1 e2 hi hz ⟨j,l,rfl,h,e,rfl⟩ g
  obtain⟨p,g1,rfl⟩:=eV e1;obtain⟨q,g2,rfl⟩:=eV e2;refine⟨u,_,rfl,SqT.of za,rfl,_,_,rfl,_,_,rfl,rfl,fK ?_⟩;refine v p q _ _ (Am g1) (Am g2) (bB (Ag (Nat.min_le_right _ _) (by rw[Aa];exact zp ω)) hi hz (by rw[ao (zk e g)];exact e) ⟨_,_,rfl,?_,za,?_⟩)
  ·exact(h.then (h.free g)).then s
  ·have e3:(AH f rn on)[i]?=some (f p q):=by rw[List.getElem?_zipWith,g1,g2]
   rw[A8 e3,Aq];rfl
 ·rintro σ zs d ⟨j,l,rfl,h,e,rfl⟩
  refine k d h ?_;rw[e,An (by simp)]
def sy:Sp:=fun vs H Q _=>∃r o rn on q,vs=[.ref r,.int q,.ref o]/\H r=some (.lst (rn.map V.int))/\H o=some (.lst (on.map V.int))/\on.length<=1000/\(∀x∈on,ey q x)/\nV H Q (cV rn q on)
def NE:zm ["row","often","other"] ["row","often","other"] (ze j4):=⟨rfl,rfl,rfl,δ,rfl,δ,δ⟩
def NF{f:Addr}{fd:FuncData}(F:Fun K "less" "less" j4 f fd)(v:mg "zip"=none):ar P w K mg base aK 1 f fd ["row","often","other"] sy:=by
 refine F.ok NE (fun vs H Q E h=>?_) (fun y A outer s H vs Q E hr h=>?_)
 ·obtain⟨r,o,rn,on,q,rfl,_⟩:=h;rfl
 ·obtain⟨r,o,rn,on,q,rfl,h1,h2,n2,u,k⟩:=h
  refine⟨_,zg (zq (zx ["row","often","other"] ["number","taken","often"] [none,none,some 1] (rK rfl v nR (af (pv 0) (af (pv 2) ah)))
   (fun d C s₀ H₀ ex=>jM rfl (zM (zl (i:=0) (bF ["number","taken","often"]) rfl (Or.inl rfl)) (zM (zl (i:=1) (bF ["number","taken","often"]) rfl (Or.inl rfl)) jK))) (fun d C s₀ H₀ ex=>zA)
   (fun d C s₀ H₀ ex=>zt fy (pv 0) (zt nQ (pv 2) (pv 1))) (te:=bI (eO fun i j=>.int (i-j)) (aw 0) (bI (rI ey fun i j=>.int (i*j)) (aw 2) (aw 1))) (hfr:=a_ (ze j4) δ) (g:=cw K 2 (cz (zH 0) (cz (zH 1) cv))))),?_⟩
  refine⟨_,rfl,_,rfl,r,o,rfl,⟨_,SqL.of h1⟩,⟨_,SqL.of h2⟩,fun D e=>?_⟩;refine zy (HV (f:=fun a b=>a-q*b) (fun a b H' R _ hb l=>?_) h1 h2 n2 e fun x p c=>k D x p e c);exact⟨_,rfl,_,rfl,_,rfl,_,_,rfl,rfl,u b hb,_,_,rfl,rfl,l⟩
def HW:Sp:=fun vs H Q _=>∃r o rn on p q,vs=[.int p,.ref r,.int q,.ref o]/\H r=some (.lst (rn.map V.int))/\H o=some (.lst (on.map V.int))/\on.length<=1000/\(∀x∈rn,ey p x)/\(∀x∈on,ey q x)/\nV H Q (ba p rn q on)
def NG:zm ["often","row","other_often","other"] ["often","row","other_often","other"] (ze rZ):=⟨rfl,rfl,rfl,δ,rfl,δ,δ⟩
def NH{f:Addr}{fd:FuncData}(F:Fun K "mix_of_two" "mix_of_two" rZ f fd)(z:mg "zip"=none):ar P w K mg base aK 1 f fd ["often","row","other_often","other"] HW:=by
 refine F.ok NG (fun vs H Q E h=>?_) (fun I A outer s H vs Q E hr h=>?_)
 ·obtain⟨r,o,rn,on,p,q,rfl,_⟩:=h;rfl
 ·obtain⟨r,o,rn,on,p,q,rfl,h1,h2,n2,x,y,k⟩:=h
  refine⟨_,zg (zq (zx ["often","row","other_often","other"] ["number","beside","often","other_often"] [none,none,some 0,some 2] (rK rfl z nR (af (pv 1) (af (pv 3) ah)))
   (fun d C s₀ H₀ ex=>jM rfl (zM (zl (i:=0) (bF ["number","beside","often","other_often"]) rfl (Or.inl rfl)) (zM (zl (i:=1) (bF ["number","beside","often","other_often"]) rfl (Or.inl rfl)) jK))) (fun d C s₀ H₀ ex=>zA)
   (fun d C s₀ H₀ ex=>zt dU (zt nQ (pv 2) (pv 0)) (zt nQ (pv 3) (pv 1))) (te:=bI (eO fun i j=>.int (i+j)) (bI (rI ey fun i j=>.int (i*j)) (aw 2) (aw 0)) (bI (rI ey fun i j=>.int (i*j)) (aw 3) (aw 1))) (hfr:=a_ (ze rZ) δ) (g:=cw K 2 (cz (zH 0) (cz (zH 1) cv))))),?_⟩
  refine⟨_,rfl,_,rfl,r,o,rfl,⟨_,SqL.of h1⟩,⟨_,SqL.of h2⟩,fun D e=>?_⟩;refine zy (HV (f:=fun a b=>p*a+q*b) (fun a b H' R l hb u=>?_) h1 h2 n2 e fun G v c=>k D G v e c);exact⟨_,rfl,_,rfl,_,_,rfl,rfl,x a l,_,rfl,_,rfl,_,_,rfl,rfl,y b hb,_,_,rfl,rfl,u⟩
end
end K22
end
section
namespace Tb
abbrev Vc:=Nat->Int
def cmb:List Int->List Vc->Vc
 |a::c,v::L=>fun u=>a*v u+cmb c L u
 |_,_=>fun _=>0
def allv(p:Nat):Nat->Ξ
 |0=>[[]]
 |n+1=>(allv p n).flatMap fun c=>(Ah p).map fun a:Nat=>(a:Int)::c
def Cr(p:Nat):∀n,(allv p n).length=p ^ n
 |0=>rfl
 |n+1=>by
  have:∀l:Ξ,(l.flatMap fun c=>(Ah p).map fun a:Nat=>(a:Int)::c).length=l.length*p:=by
   intro l
   induction l with
   |nil=>simp
   |cons c l ih=>rw[List.flatMap_cons,AJ,Aa,A9,ih,AO,Nat.add_mul];(first|lia|omega)
  show(((allv p n).flatMap fun c=>(Ah p).map fun a:Nat=>(a:Int)::c)).length=_;rw[this,Cr p n,Nat.pow_succ]
def k4{p:Nat}:∀{n:Nat}{c:List Int},c∈allv p n↔c.length=n/\∀x∈c,0<=x/\x<(p:Int)
 |0,c=>by
  show c∈[[]]↔_;rw[List.mem_singleton];constructor
  ·rintro rfl;exact⟨rfl,fun x hx=>nomatch hx⟩
  ·intro h;exact AG h.1
 |n+1,c=>by
  show c∈(allv p n).flatMap (fun c=>(Ah p).map fun a:Nat=>(a:Int)::c)↔_;rw[List.mem_flatMap];constructor
  ·rintro⟨d,hd,h⟩
   obtain⟨a,b,rfl⟩:=List.mem_map.mp h;obtain⟨h1,h2⟩:=k4.mp hd;have:=List.mem_range.mp b;refine⟨by rw[AO,h1],fun x hx=>?_⟩;rcases List.mem_cons.mp hx with rfl|hx
   ·(first|lia|omega)
   ·exact h2 x hx
  ·rintro⟨h1,h2⟩
   cases c with
   |nil=>simp at h1
   |cons a d=>
    have b:=h2 a (.head _);refine⟨d,k4.mpr ⟨by simpa using h1,fun x hx=>h2 x (.tail _ hx)⟩,List.mem_map.mpr ⟨a.toNat,List.mem_range.mpr ω,?_⟩⟩;rw[Int.toNat_of_nonneg b.1]
def HX(p:Nat):∀n,(allv p n).Nodup
 |0=>by simp[allv]
 |n+1=>by
  show((allv p n).flatMap fun c=>(Ah p).map fun a:Nat=>(a:Int)::c).Pairwise (·≠·);rw[List.pairwise_flatMap];refine⟨fun c _=>?_,(HX p n).imp fun{a b} h x hx y hy e=>?_⟩
  ·rw[List.pairwise_map]
   exact List.nodup_range.imp fun h e=>h (by injection e with e;(first|lia|omega))
  ·obtain⟨i,_,rfl⟩:=List.mem_map.mp hx
   obtain⟨j,_,rfl⟩:=List.mem_map.mp hy;injection e with _ e
   exact h e
def ez{g h:Type}(f:g->h):∀(l:List g)(m:List h),l.Nodup->(∀x∈l,f x∈m)->m.length<l.length->∃x∈l,∃y∈l,x≠y/\f x=f y:=by
 intro l m i d j;apply AM;intro no;have inj:∀x∈l,∀y∈l,f x=f y->x=y:=fun x hx y hy e=>AM fun ne=>no ⟨x,hx,y,hy,ne,e⟩;have c:(l.map f).Nodup:=by
  clear d j no
  induction l with
  |nil=>exact List.nodup_nil
  |cons a l ih=>
   rw[A5,List.nodup_cons];obtain⟨h1,h2⟩:=List.nodup_cons.mp i;refine⟨fun z=>?_,ih h2 fun x hx y hy=>inj x (.tail _ hx) y (.tail _ hy)⟩;obtain⟨b,hb,e⟩:=List.mem_map.mp z;exact h1 (inj b (.tail _ hb) a (.head _) e▸hb)
 have:=c.length_le_of_subset (l₂:=m) fun y hy=>by
  obtain⟨x,hx,rfl⟩:=List.mem_map.mp hy;exact d x hx
 rw[Aa] at this;(first|lia|omega)
def CG:∀(c d:List Int)(L:List Vc),c.length=L.length->d.length=L.length->∀u,cmb (AH (fun a b=>a-b) c d) L u=cmb c L u-cmb d L u
 |c,d,[],h1,h2,u=>by rw[AG h1,AG h2];rfl
 |[],_,_::_,h1,_,_=>by simp at h1
 |_::_,[],_::_,_,h2,_=>by simp at h2
 |a::c,b::d,v::L,h1,h2,u=>by
  show(a-b)*v u+cmb _ L u=a*v u+cmb c L u-(b*v u+cmb d L u);rw[CG c d L (by simpa using h1) (by simpa using h2),Int.sub_mul];(first|lia|omega)
def gO(k m:Int):∀(c d:List Int)(L:List Vc),c.length=L.length->d.length=L.length->∀u,cmb (AH (fun a b=>k*a+m*b) c d) L u=k*cmb c L u+m*cmb d L u
 |c,d,[],h1,h2,u=>by rw[AG h1,AG h2];show(0:Int)=k*0+m*0;(first|lia|omega)
 |[],_,_::_,h1,_,_=>by simp at h1
 |_::_,[],_::_,_,h2,_=>by simp at h2
 |a::c,b::d,v::L,h1,h2,u=>by
  show(k*a+m*b)*v u+cmb _ L u=k*(a*v u+cmb c L u)+m*(b*v u+cmb d L u);rw[gO k m c d L (by simpa using h1) (by simpa using h2),Int.add_mul,Int.mul_add,Int.mul_add,AR,AR];(first|lia|omega)
def CJ:∀(n:Nat)(L:List Vc)(u:Nat),cmb (Au n 0) L u=0
 |0,_,_=>rfl
 |n+1,[],_=>rfl
 |n+1,v::L,u=>by show 0*v u+cmb (Au n 0) L u=0;rw[CJ n L u];(first|lia|omega)
def sC{M X:Nat}{u:Nat}:∀(c:List Int)(L:List Vc),(∀x∈c,x.natAbs<=X)->(∀v∈L,(v u).natAbs<=M)->(cmb c L u).natAbs<=L.length*(X*M)
 |[],[],_,_=>by show(0:Int).natAbs<=_;simp
 |[],_::_,_,_=>by show(0:Int).natAbs<=_;simp
 |_::_,[],_,_=>by show(0:Int).natAbs<=_;simp
 |a::c,v::L,h1,h2=>by
  have b:=sC (u:=u) c L (fun x hx=>h1 x (.tail _ hx)) fun w hw=>h2 w (.tail _ hw);have d:(a*v u).natAbs<=X*M:=by rw[AD];exact AL (h1 a (.head _)) (h2 v (.head _))
  show(a*v u+cmb c L u).natAbs<=(L.length+1)*(X*M);have:=Int.natAbs_add_le (a*v u) (cmb c L u);rw[Nat.add_mul];(first|lia|omega)
def Inj(R:List Vc)(P:List Nat):Prop:=∀c:List Int,c.length=R.length->(∀p∈P,cmb c R p=0)->∀x∈c,x=0
def gP{R:List Vc}{P:List Nat}{M:Nat}(C:1<=M)(r:∀v∈R,∀p∈P,(v p).natAbs<=M)(s:P.length<R.length):∃c:List Int,c.length=R.length/\(∃x∈c,x≠0)/\(∀p∈P,cmb c R p=0)/\∀x∈c,x.natAbs<=(2*R.length*M) ^ P.length:=by
 let j:=R.length
 let X:=(2*j*M) ^ P.length
 have w:1<=j:=by show 1<=R.length;(first|lia|omega)
 have A:1<=2*j*M:=Nat.one_le_iff_ne_zero.mpr (by intro z;rcases Nat.mul_eq_zero.mp z with z|z<;>(first|lia|omega));have q:∀c∈allv (X+1) j,P.map (fun p=>cmb c R p+(j*(X*M):Nat))∈allv (2*(j*(X*M))+1) P.length:=fun c hc=>by
  obtain⟨h1,h2⟩:=k4.mp hc;refine k4.mpr ⟨Aa _,fun x hx=>?_⟩;obtain⟨p,hp,rfl⟩:=List.mem_map.mp hx;have:=sC (u:=p) (X:=X) (M:=M) c R (fun x hx=>by have:=h2 x hx;(first|lia|omega)) fun v h=>r v h p hp;have e:R.length*(X*M)=j*(X*M):=rfl;rw[e] at this;generalize j*(X*M)=N at this ⊢;(first|lia|omega)
 have cnt:(allv (2*(j*(X*M))+1) P.length).length<(allv (X+1) j).length:=by
  rw[Cr,Cr];have e1:2*(j*(X*M))+1<=(2*j*M)*(X+1):=by
   have:2*(j*(X*M))=(2*j*M)*X:=by rw[AN 2 j M,AN 2 (j*M) X,AN j M X,Nat.mul_comm M X]
   rw[this,Nat.mul_add];(first|lia|omega)
  calc (2*(j*(X*M))+1) ^ P.length<=((2*j*M)*(X+1)) ^ P.length:=Nat.pow_le_pow_left e1 _
   _=X*(X+1) ^ P.length:=Nat.mul_pow _ _ _
   _<(X+1)*(X+1) ^ P.length:=Nat.mul_lt_mul_of_pos_right (Nat.lt_succ_self _) (Nat.pow_pos (Nat.succ_pos _))
   _=(X+1) ^ (P.length+1):=by rw[Nat.pow_succ,Nat.mul_comm]
   _<=(X+1) ^ j:=AA (Nat.succ_pos _) s
 obtain⟨x,hx,y,hy,ne,e⟩:=ez _ _ _ (HX (X+1) j) q cnt;obtain⟨x1,x2⟩:=k4.mp hx;obtain⟨d,o⟩:=k4.mp hy;have hz:(AH (fun a b=>a-b) x y).length=R.length:=by rw[AF,x1,d];exact Nat.min_self _
 refine⟨AH (fun a b=>a-b) x y,hz,?_,fun p hp=>?_,fun z hz=>?_⟩
 ·apply AM
  intro no;apply ne;refine AX (by rw[x1,d]) fun i h1 h2=>?_;have hi:i<(AH (fun a b=>a-b) x y).length:=by rw[AF];(first|lia|omega)
  have:=AM fun nz=>no ⟨(AH (fun a b=>a-b) x y)[i],AI hi,nz⟩;rw[A7] at this;(first|lia|omega)
 ·rw[CG x y R (by rw[x1]) (by rw[d])]
  obtain⟨i,hi,rfl⟩:=Bg hp;have:=congrArg (fun l=>l[i]?) e;simp only[Aj,Ac hi,Option.map_some,Option.some.injEq] at this;(first|lia|omega)
 ·obtain⟨i,hi,rfl⟩:=Bg hz
  rw[A7];rw[AF] at hi;have f:i<x.length:=ω
  have g:i<y.length:=ω
  have a1:=x2 _ (AI f);have a2:=o _ (AI g);show(x[i]-y[i]).natAbs<=X;(first|lia|omega)
def HY{R:List Vc}{P:List Nat}{M:Nat}(g:1<=M)(h:∀v∈R,∀p∈P,(v p).natAbs<=M)(i:P.length=R.length)(j:P.Nodup)(hi:Inj R P){p:Nat}(hp:p∈P):∃c:List Int,c.length=R.length/\cmb c R p≠0/\(∀q∈P,q≠p->cmb c R q=0)/\∀x∈c,x.natAbs<=(2*R.length*M) ^ (R.length-1):=by
 have a:(P.erase p).length=R.length-1:=by rw[List.length_erase_of_mem hp,i]
 have d:1<=P.length:=List.length_pos_of_mem hp;obtain⟨c,h1,⟨x,hx,nx⟩,h2,b⟩:=gP (P:=P.erase p) g (fun v f q hq=>h v f q (List.mem_of_mem_erase hq)) ω;rw[a] at b;have hz:∀q∈P,q≠p->cmb c R q=0:=fun q hq ne=>h2 q ((List.mem_erase_of_ne ne).mpr hq);refine⟨c,h1,fun z=>nx ?_,hz,b⟩;refine hi c h1 (fun q hq=>?_) x hx
 by_cases e:q=p
 ·rw[e];exact z
 ·exact hz q hq e
end Tb
end
section
namespace Tb
def HZ{f:Int->Int->Int}{c d:List Int}{x:Int}(h:x∈AH f c d):∃a∈c,∃b∈d,x=f a b:=by
 obtain⟨i,hi,rfl⟩:=Bg h;rw[AF] at hi;exact⟨c[i]'ω,AI _,d[i]'ω,AI _,A7 ..⟩
def EK{x:Int}(h:x≠0):1<=x.natAbs:=ω
def clear{R:List Vc}{P:List Nat}{M V:Nat}{v:Vc}(i:1<=M)(j:∀v∈R,∀p∈P,(v p).natAbs<=M)(l:P.length=R.length)(o:P.Nodup)(hi:Inj R P)(r:∀p∈P,(v p).natAbs<=V):∀Q:List Nat,Q.Nodup->(∀q∈Q,q∈P)->∃(D:Int)(s:List Int),D≠0/\s.length=R.length/\(∀q∈Q,cmb s R q=D*v q)/\(∀q∈P,q∉Q->cmb s R q=0)/\∀x∈s,x.natAbs<=D.natAbs*(Q.length*(V*(2*R.length*M) ^ (R.length-1)))
 |[],_,_=>⟨1,Au R.length 0,ξ,List.length_replicate,(fun q hq=>nomatch hq),fun q _ _=>CJ _ _ _,fun x hx=>by rw[(List.mem_replicate.mp hx).2];simp⟩
 |p::Q,hn,hs=>by
  obtain⟨n1,n2⟩:=List.nodup_cons.mp hn;obtain⟨D,s,u,e,e1,e2,b⟩:=clear i j l o hi r Q n2 fun q hq=>hs q (.tail _ hq);have hp:=hs p (.head _);obtain⟨c,f,g,h,w⟩:=HY i j l o hi hp;refine⟨D*cmb c R p,AH (fun a b=>cmb c R p*a+(D*v p)*b) s c,Int.mul_ne_zero u g,by rw[AF];(first|lia|omega),fun q hq=>?_,fun q hq d=>?_,fun x hx=>?_⟩
  ·rw[gO _ _ s c R e f]
   rcases List.mem_cons.mp hq with rfl|hq
   ·rw[e2 q hp n1,Bi,Int.zero_add,Int.mul_right_comm]
   ·rw[e1 q hq,h q (hs q (.tail _ hq)) (fun z=>n1 (z▸hq)),Bi,Int.add_zero,Int.mul_left_comm,AR]
  ·rw[gO _ _ s c R e f,e2 q hq (fun z=>d (.tail _ z)),h q hq (fun z=>d (z▸.head _)),Bi,Bi];rfl
  ·obtain⟨a,y,b',A,rfl⟩:=HZ hx
   have h1:=b a y;have h2:=w b' A;have C:=r p hp;generalize (2*R.length*M) ^ (R.length-1)=X at h1 h2 ⊢;have k:=EK g;generalize cmb c R p=E at k ⊢;have F:(E*a).natAbs<=E.natAbs*(D.natAbs*(Q.length*(V*X))):=by rw[AD];exact Ak _ h1
   have G:(D*v p*b').natAbs<=D.natAbs*(V*X):=by
    rw[AD,AD,AN];exact Ak _ (AL C h2)
   have H:=Int.natAbs_add_le (E*a) (D*v p*b');have I:D.natAbs*(V*X)<=E.natAbs*(D.natAbs*(V*X)):=Nat.le_mul_of_pos_left _ k;have J:(D*E).natAbs*((Q.length+1)*(V*X))=E.natAbs*(D.natAbs*(Q.length*(V*X)))+E.natAbs*(D.natAbs*(V*X)):=by
    rw[AD,Nat.add_mul,Nat.one_mul,Nat.mul_add,Nat.mul_comm D.natAbs E.natAbs,AN,AN]
   show _<=(D*E).natAbs*((Q.length+1)*(V*X));rw[J];exact Ag H (Nat.add_le_add F (Ag G I))
def sG{R:List Vc}{P:List Nat}{M V:Nat}{c:List Int}(r:1<=M)(u:∀v∈R,∀p∈P,(v p).natAbs<=M)(e:P.length=R.length)(f:P.Nodup)(hi:Inj R P)(hc:c.length=R.length)(w:∀p∈P,(cmb c R p).natAbs<=V):∀x∈c,x.natAbs<=R.length*(V*(2*R.length*M) ^ (R.length-1)):=by
 obtain⟨D,s,g,h,e1,_,b⟩:=clear r u e f hi w P f fun q hq=>hq;have hz:=hi (AH (fun a b=>D*a+(-1)*b) c s) (by rw[AF];(first|lia|omega)) fun p hp=>by
  rw[gO _ _ c s R hc h,e1 p hp];(first|lia|omega)
 intro x hx;obtain⟨i,j,rfl⟩:=Bg hx;have l:i<s.length:=ω
 have d:i<(AH (fun a b=>D*a+(-1)*b) c s).length:=by rw[AF];(first|lia|omega)
 have o:=hz _ (AI d);rw[A7] at o;have h1:=b _ (AI l);have h2:s[i]=D*c[i]:=ω
 rw[h2,AD,e] at h1;exact Nat.le_of_mul_le_mul_left h1 (EK g)
end Tb
end
section
namespace Tb
def Rep(R:List Vc)(C:Nat)(v:Vc):Prop:=∃c:List Int,c.length=R.length/\(∀u,v u=cmb c R u)/\∀x∈c,x.natAbs<=C
section
variable{R:List Vc}{C D:Nat}{v w:Vc}
def Rep.mono(h:Rep R C v)(hc:C<=D):Rep R D v:=let ⟨c,h1,h2,h3⟩:=h;⟨c,h1,h2,fun x hx=>Ag (h3 x hx) hc⟩
def Rep.eq(h:Rep R C v)(e:∀u,w u=v u):Rep R C w:=let ⟨c,h1,h2,h3⟩:=h;⟨c,h1,fun u=>(e u).trans (h2 u),h3⟩
def Rep.lin{k m:Int}{A B:Nat}(g:Rep R C v)(hw:Rep R D w)(hk:k.natAbs<=A)(h:m.natAbs<=B):Rep R (A*C+B*D) fun u=>k*v u+m*w u:=by
 obtain⟨c,h1,h2,e⟩:=g;obtain⟨d,g1,g2,g3⟩:=hw;refine⟨AH (fun a b=>k*a+m*b) c d,by rw[AF];(first|lia|omega),fun u=>?_,fun x hx=>?_⟩
 ·show k*v u+m*w u=_
  rw[gO k m c d R h1 g1,h2,g2]
 ·obtain⟨a,f,b,hb,rfl⟩:=HZ hx
  have i:(k*a).natAbs<=A*C:=by rw[AD];exact AL hk (e a f)
  have j:(m*b).natAbs<=B*D:=by rw[AD];exact AL h (g3 b hb)
  have:=Int.natAbs_add_le (k*a) (m*b);(first|lia|omega)
def Rep.sub{m:Int}{B:Nat}(a:Rep R C v)(hw:Rep R D w)(b:m.natAbs<=B):Rep R (C+B*D) fun u=>v u-m*w u:=
 ((a.lin (k:=1) (m:=-m) hw (A:=1) (B:=B) ξ (by rw[Int.natAbs_neg];exact b)).mono ω).eq fun u=>by rw[Int.one_mul,Int.neg_mul];(first|lia|omega)
def Rep.le(h:Rep R C v){M u:Nat}(b:∀r∈R,(r u).natAbs<=M):(v u).natAbs<=R.length*(C*M):=by
 obtain⟨c,h1,h2,a⟩:=h;rw[h2];exact sC c R a b
end
def step(f:Nat->Vc)(p:Nat)(l:Vc):Vc:=fun u=>l u-l p / f p p*f p u
def aY(f:Nat->Vc):List Nat->Vc->Vc
 |[],l=>l
 |p::ps,l=>aY f ps (step f p l)
structure Ech(P:List Nat)(f:Nat->Vc):Prop where
 z:∀p∈P,∀i,i<p->f p i=0
 pos:∀p∈P,0<f p p
section
variable{f:Nat->Vc}
def Ech.sub{P Q:List Nat}(h:Ech P f)(a:∀q∈Q,q∈P):Ech Q f:=⟨fun p hp=>h.z p (a p hp),fun p hp=>h.pos p (a p hp)⟩
def H_{P:List Nat}{p i:Nat}{l:Vc}(h:Ech P f)(hp:p∈P)(hi:i<p):step f p l i=l i:=by
 unfold step;rw[h.z p hp i hi,Bi,Int.sub_zero]
def step_at{P:List Nat}{p:Nat}{l:Vc}(h:Ech P f)(hp:p∈P):0<=step f p l p/\step f p l p<f p p:=by
 have a:=h.pos p hp;have e:step f p l p=l p%f p p:=by
  unfold step;have:=Int.emod_add_mul_ediv (l p) (f p p);rw[Bj] at this;(first|lia|omega)
 rw[e];exact⟨Int.emod_nonneg _ ω,Int.emod_lt_of_pos _ a⟩
def CM:∀{ps:List Nat}{l:Vc}{i:Nat},Ech ps f->(∀p∈ps,i<p)->aY f ps l i=l i
 |[],_,_,_,_=>rfl
 |p::ps,l,i,h,hi=>by
  show aY f ps (step f p l) i=l i;rw[CM (h.sub fun q hq=>.tail _ hq) (fun q hq=>hi q (.tail _ hq)),H_ h (.head _) (hi p (.head _))]
def Ia:∀{ps:List Nat}{l:Vc}{t:Nat},Ech ps f->(∀i,i<t->l i=0)->∀i,i<t->aY f ps l i=0
 |[],_,_,_,hz,i,hi=>hz i hi
 |p::ps,l,t,h,hz,i,hi=>by
  refine Ia (h.sub fun q hq=>.tail _ hq) (t:=t) (fun i hi=>?_) i hi
  by_cases hp:i<p
  ·rw[H_ h (.head _) hp];exact hz i hi
  ·unfold step
   rw[hz i hi,hz p ω];simp
def CN:∀{ps:List Nat}{l:Vc},Ech ps f->ps.Pairwise (·<·)->∀p∈ps,0<=aY f ps l p/\aY f ps l p<f p p
 |p::ps,l,h,hs,q,hq=>by
  rw[Be] at hs;have h':Ech ps f:=h.sub fun q hq=>.tail _ hq;rcases List.mem_cons.mp hq with rfl|hq
  ·show 0<=aY f ps (step f q l) q/\aY f ps (step f q l) q<f q q
   rw[CM h' (fun r hr=>hs.1 r hr)];exact step_at h (.head _)
  ·exact CN h' hs.2 q hq
def k7{R:List Vc}{P:List Nat}{CF VF:Nat}(g:∀p∈P,Rep R CF (f p))(h:∀p∈P,∀q∈P,(f p q).natAbs<=VF)(a:∀p∈P,0<f p p):∀(ps:List Nat){l:Vc}{C V:Nat},(∀p∈ps,p∈P)->Rep R C l->(∀q∈P,(l q).natAbs<=V)->Rep R (C+ps.length*(V*(1+VF) ^ ps.length*CF)) (aY f ps l)/\∀q∈P,(aY f ps l q).natAbs<=V*(1+VF) ^ ps.length
 |[],l,C,V,_,hr,hv=>⟨hr.mono ω,fun q hq=>by show(l q).natAbs<=V*(1+VF) ^ 0;rw[Nat.pow_zero,Nat.mul_one];exact hv q hq⟩
 |p::ps,l,C,V,hs,hr,hv=>by
  have hp:=hs p (.head _);have o:=a p hp;have d:(l p / f p p).natAbs<=V:=by
   refine Ag ?_ (hv p hp);have:(l p / f p p).natAbs<=(l p).natAbs:=by
    have:=Int.natAbs_ediv_le_natAbs (l p) (f p p);exact this
   exact this
  have i:Rep R (C+V*CF) (step f p l):=hr.sub (g p hp) d;have j:∀q∈P,(step f p l q).natAbs<=V*(1+VF):=fun q hq=>by
   have r:=hv q hq;have s:(l p / f p p*f p q).natAbs<=V*VF:=by rw[AD];exact AL d (h p hp q hq)
   have u:(step f p l q).natAbs<=(l q).natAbs+(l p / f p p*f p q).natAbs:=by unfold step;(first|lia|omega)
   rw[Nat.mul_add,Nat.mul_one];(first|lia|omega)
  obtain⟨b,c⟩:=k7 g h a ps (fun q hq=>hs q (.tail _ hq)) i j;have e:V*(1+VF)*(1+VF) ^ ps.length=V*(1+VF) ^ (ps.length+1):=by rw[Nat.pow_succ,AN,Nat.mul_comm (1+VF)]
  rw[e] at b c;refine⟨b.mono ?_,c⟩;show C+V*CF+ps.length*(V*(1+VF) ^ (ps.length+1)*CF)<=C+(ps.length+1)*(V*(1+VF) ^ (ps.length+1)*CF);have k1:V*1<=V*(1+VF) ^ (ps.length+1):=Ak _ (Nat.pow_pos ω);have k2:V*CF<=V*(1+VF) ^ (ps.length+1)*CF:=Al _ ω;rw[Nat.add_mul];(first|lia|omega)
end
end Tb
end
section
namespace Tb
def Sp(R:List Vc)(v:Vc):Prop:=∃c:List Int,c.length=R.length/\∀u,v u=cmb c R u
section
variable{R S:List Vc}{v w:Vc}
def Rep.sp{C:Nat}(h:Rep R C v):Sp R v:=let ⟨c,h1,h2,_⟩:=h;⟨c,h1,h2⟩
def Sp.eq(h:Sp R v)(e:∀u,w u=v u):Sp R w:=let ⟨c,h1,h2⟩:=h;⟨c,h1,fun u=>(e u).trans (h2 u)⟩
def Sp.zero:Sp R fun _=>0:=⟨Au R.length 0,List.length_replicate,fun u=>(CJ _ _ _).symm⟩
def Sp.lin(e:Sp R v)(hw:Sp R w)(k m:Int):Sp R fun u=>k*v u+m*w u:=by
 obtain⟨c,h1,h2⟩:=e;obtain⟨d,g1,g2⟩:=hw;refine⟨AH (fun a b=>k*a+m*b) c d,by rw[AF];(first|lia|omega),fun u=>?_⟩;show k*v u+m*w u=_;rw[gO k m c d R h1 g1,h2,g2]
def Sp.sub(a:Sp R v)(hw:Sp R w)(m:Int):Sp R fun u=>v u-m*w u:=(a.lin hw 1 (-m)).eq fun u=>by rw[Int.one_mul,Int.neg_mul];(first|lia|omega)
def Rep.mem:∀{R:List Vc}{v:Vc},v∈R->Rep R 1 v
 |r::R,v,h=>by
  rcases List.mem_cons.mp h with rfl|h
  ·exact⟨1::Au R.length 0,by simp,fun u=>by show v u=1*v u+cmb (Au R.length 0) R u;rw[CJ];(first|lia|omega),fun x hx=>by
    rcases List.mem_cons.mp hx with rfl|hx
    ·decide
    ·rw[(List.mem_replicate.mp hx).2];decide⟩
  ·obtain⟨c,h1,h2,a⟩:=Rep.mem h
   exact⟨0::c,by simp[h1],fun u=>by show v u=0*r u+cmb c R u;rw[h2];(first|lia|omega),fun x hx=>by
    rcases List.mem_cons.mp hx with rfl|hx
    ·decide
    ·exact a x hx⟩
def Sp.mem(h:v∈R):Sp R v:=(Rep.mem h).sp
def Sp.cmb:∀(c:List Int)(S:List Vc),(∀s∈S,Sp R s)->Sp R (Tb.cmb c S)
 |[],[],_=>Sp.zero
 |[],_::_,_=>Sp.zero
 |_::_,[],_=>Sp.zero
 |a::c,s::S,h=>((h s (.head _)).lin (Sp.cmb c S fun w hw=>h w (.tail _ hw)) a 1).eq fun u=>by show a*s u+Tb.cmb c S u=_;(first|lia|omega)
def Sp.trans(h:Sp S v)(a:∀s∈S,Sp R s):Sp R v:=by
 obtain⟨c,_,h2⟩:=h;exact(Sp.cmb c S a).eq h2
def i'(R:List Vc):Prop:=∀c:List Int,c.length=R.length->(∀u,cmb c R u=0)->∀x∈c,x=0
def zJ{u:Nat}:∀(c:List Int)(L:List Vc),(∀v∈L,v u=0)->cmb c L u=0
 |[],[],_=>rfl
 |[],_::_,_=>rfl
 |_::_,[],_=>rfl
 |a::c,v::L,h=>by
  show a*v u+cmb c L u=0;rw[h v (.head _),zJ c L fun w hw=>h w (.tail _ hw),Bi];rfl
end
section
variable{f:Nat->Vc}
def EM:∀{P:List Nat},Ech P f->P.Pairwise (·<·)->∀c:List Int,c.length=P.length->(∀p∈P,cmb c (P.map f) p=0)->∀x∈c,x=0
 |[],_,_,c,hl,_,x,hx=>by rw[AG hl] at hx;cases hx
 |p::P,h,hs,[],hl,_,x,hx=>by cases hx
 |p::P,h,hs,a::c,hl,hz,x,hx=>by
  rw[Be] at hs;have b:=hz p (.head _);have e:cmb (a::c) ((p::P).map f) p=a*f p p:=by
   show a*f p p+cmb c (P.map f) p=a*f p p;rw[zJ c (P.map f) fun v d=>by
    obtain⟨q,hq,rfl⟩:=List.mem_map.mp d;exact h.z q (.tail _ hq) p (hs.1 q hq)]
   (first|lia|omega)
  rw[e] at b;have hp:=h.pos p (.head _);have g:a=0:=by
   rcases Int.mul_eq_zero.mp b with z|z
   ·exact z
   ·(first|lia|omega)
  subst g;rcases List.mem_cons.mp hx with rfl|hx
  ·rfl
  ·refine EM (h.sub fun q hq=>.tail _ hq) hs.2 c (by simpa using hl) (fun q hq=>?_) x hx
   have:=hz q (.tail _ hq);have e:cmb (0::c) ((p::P).map f) q=0*f p q+cmb c (P.map f) q:=rfl;rw[e] at this;(first|lia|omega)
def k8:∀(c:List Int)(L:List Vc)(u:Nat),(∀x∈c,x=0)->cmb c L u=0
 |[],[],_,_=>rfl
 |[],_::_,_,_=>rfl
 |_::_,[],_,_=>rfl
 |a::c,v::L,u,h=>by show a*v u+cmb c L u=0;rw[h a (.head _),k8 c L u fun x hx=>h x (.tail _ hx)];(first|lia|omega)
def CO{R:List Vc}{P:List Nat}(hi:i' R)(h:Ech P f)(b:P.Pairwise (·<·))(e:∀r∈R,Sp (P.map f) r):Inj R P:=fun c hc hz=>by
 obtain⟨d,h1,h2⟩:=Sp.cmb c R e;have a:=EM h b d (by simpa using h1) fun p hp=>by rw[<-h2];exact hz p hp
 exact hi c hc fun u=>by rw[h2];exact k8 d _ u a
def j6:∀{P:List Nat}{p:Nat}{w:Vc},Ech P f->P.Pairwise (·<·)->p∈P->Sp (P.map f) w->(∀q∈P,q<p->w q=0)->f p p ∣ w p
 |[],_,_,_,_,hp,_,_=>nomatch hp
 |q::P,p,w,h,hs,hp,⟨c,hc,e⟩,hz=>by
  cases c with
  |nil=>simp at hc
  |cons a c=>
   rw[Be] at hs;have eq:w q=a*f q q:=by
    rw[e];show a*f q q+cmb c (P.map f) q=a*f q q;rw[zJ c (P.map f) fun v g=>by
     obtain⟨r,hr,rfl⟩:=List.mem_map.mp g;exact h.z r (.tail _ hr) q (hs.1 r hr)]
    (first|lia|omega)
   rcases List.mem_cons.mp hp with rfl|hp
   ·exact⟨a,by rw[eq,Bj]⟩
   ·have hq:=hz q (.head _) (hs.1 p hp)
    rw[eq] at hq;have d:=h.pos q (.head _);have i:a=0:=by
     rcases Int.mul_eq_zero.mp hq with z|z
     ·exact z
     ·(first|lia|omega)
    refine j6 (h.sub fun q hq=>.tail _ hq) hs.2 hp ⟨c,by simpa using hc,fun u=>?_⟩ fun r hr b=>hz r (.tail _ hr) b;rw[e];show a*f q u+cmb c (P.map f) u=_;rw[i];(first|lia|omega)
def NI{R:List Vc}{P:List Nat}{M:Nat}(l:1<=M)(hi:i' R)(h:Ech P f)(b:P.Pairwise (·<·))(d:∀r∈R,Sp (P.map f) r)(o:P.length=R.length)(hb:∀r∈R,∀p∈P,(r p).natAbs<=M){p:Nat}(hp:p∈P):(f p p).natAbs<=R.length*((2*R.length*M) ^ (R.length-1)*M):=by
 have j:P.Nodup:=b.imp fun h=>Az h;obtain⟨c,s,e,g,i⟩:=HY l hb o j (CO hi h b d) hp;have hd:=j6 h b hp (Sp.cmb c R d) fun q hq a=>g q hq (Az a);have:=Nat.le_of_dvd (EK e) (Int.natAbs_dvd_natAbs.mpr hd);exact Ag this (sC c R i fun r hr=>hb r hr p hp)
end
end Tb
end
section
namespace Tb
structure GI(x y:Int)(t0 t1 t2 l0 l1 l2:Int):Prop where
 t:t0=t1*x+t2*y
 l:l0=l1*x+l2*y
 det:t1*l2-t2*l1=1\/t1*l2-t2*l1=-1
 tp:0<t0
 lp:0<=l0
 s1:(0<=t1/\l1<=0)\/(t1<=0/\0<=l1)
 s2:(0<=t2/\l2<=0)\/(t2<=0/\0<=l2)
 m1:l1.natAbs*t0.natAbs+t1.natAbs*l0.natAbs=y.natAbs
 m2:l2.natAbs*t0.natAbs+t2.natAbs*l0.natAbs=x.natAbs
 b1:t1.natAbs<=y.natAbs
 b2:t2.natAbs<=x.natAbs
def GI.start{x y:Int}(hx:0<x)(hy:0<y):GI x y x 1 0 y 0 1:=
 ⟨ω,ω,ω,hx,ω,.inl ⟨ω,ω⟩,.inr ⟨ω,ω⟩,by simp,by simp,ω,ω⟩
def Ib{a b q:Int}(hq:0<=q)(h:(0<=a/\b<=0)\/(a<=0/\0<=b)):(a-q*b).natAbs=a.natAbs+q.natAbs*b.natAbs:=by
 have e:(q*b).natAbs=q.natAbs*b.natAbs:=AD ..;rcases h with ⟨h1,h2⟩|⟨h1,h2⟩
 ·have:q*b<=0:=Int.mul_nonpos_of_nonneg_of_nonpos hq h2
  (first|lia|omega)
 ·have:0<=q*b:=Int.mul_nonneg hq h2
  (first|lia|omega)
def GI.next{x y c j o l0 l1 l2:Int}(g:GI x y c j o l0 l1 l2)(h:l0≠0):GI x y l0 l1 l2 (c-c / l0*l0) (j-c / l0*l1) (o-c / l0*l2)/\c-c / l0*l0<l0:=by
 have i:0<l0:=by have:=g.lp;(first|lia|omega)
 have f:0<=c / l0:=Int.ediv_nonneg (Int.le_of_lt g.tp) g.lp;have em:c-c / l0*l0=c%l0:=by have:=Int.emod_add_mul_ediv c l0;rw[Bj] at this;(first|lia|omega)
 have r:0<=c%l0:=Int.emod_nonneg _ h;have s:c%l0<l0:=Int.emod_lt_of_pos _ i;have k1:=Ib f g.s1;have k2:=Ib f g.s2;have p:∀{a b n:Nat},b*c.natAbs+a*l0.natAbs=n->(a+(c / l0).natAbs*b)*l0.natAbs+b*(c-c / l0*l0).natAbs=n:=fun{a b n} e=>by
  have e1:(c-c / l0*l0).natAbs+(c / l0).natAbs*l0.natAbs=c.natAbs:=by
   have:(c / l0*l0).natAbs=(c / l0).natAbs*l0.natAbs:=AD ..;have:0<=c / l0*l0:=Int.mul_nonneg f g.lp;have:=g.tp;(first|lia|omega)
  rw[<-e,<-e1,Nat.add_mul,Nat.mul_add,AN,Nat.mul_left_comm b];(first|lia|omega)
 refine⟨⟨g.l,?_,?_,i,ω,?_,?_,?_,?_,?_,?_⟩,ω⟩
 ·have e1:=g.t
  have e2:=g.l;generalize c / l0=q;rw[Int.sub_mul,Int.sub_mul,AR,AR];have:q*l0=q*(l1*x)+q*(l2*y):=by rw[e2,Int.mul_add]
  (first|lia|omega)
 ·have d:=g.det
  generalize c / l0=q;rw[Int.mul_sub,Int.mul_sub,Int.mul_left_comm l1 q l2,Int.mul_left_comm l2 q l1,Bj l2 l1,Bj l1 o,Bj l2 j];(first|lia|omega)
 ·rcases g.s1 with ⟨h1,h2⟩|⟨h1,h2⟩
  ·have:c / l0*l1<=0:=Int.mul_nonpos_of_nonneg_of_nonpos f h2
   exact .inr ⟨h2,ω⟩
  ·have:0<=c / l0*l1:=Int.mul_nonneg f h2
   exact .inl ⟨h2,ω⟩
 ·rcases g.s2 with ⟨h1,h2⟩|⟨h1,h2⟩
  ·have:c / l0*l2<=0:=Int.mul_nonpos_of_nonneg_of_nonpos f h2
   exact .inr ⟨h2,ω⟩
  ·have:0<=c / l0*l2:=Int.mul_nonneg f h2
   exact .inl ⟨h2,ω⟩
 ·rw[k1];exact p g.m1
 ·rw[k2];exact p g.m2
 ·have:=g.m1
  have h1:l1.natAbs*1<=l1.natAbs*c.natAbs:=Ak _ (by have:=g.tp;(first|lia|omega));(first|lia|omega)
 ·have:=g.m2
  have h1:l2.natAbs*1<=l2.natAbs*c.natAbs:=Ak _ (by have:=g.tp;(first|lia|omega));(first|lia|omega)
def GI.le{x y a b c l0 l1 l2:Int}(g:GI x y a b c l0 l1 l2):l1.natAbs<=y.natAbs/\l2.natAbs<=x.natAbs:=by
 have h1:l1.natAbs*1<=l1.natAbs*a.natAbs:=Ak _ (by have:=g.tp;(first|lia|omega));have h2:l2.natAbs*1<=l2.natAbs*a.natAbs:=Ak _ (by have:=g.tp;(first|lia|omega));have:=g.m1;have:=g.m2;(first|lia|omega)
end Tb
end
section
namespace K22
open PySem L2
abbrev CP:Stmt:=top 37
section
variable{P:Program}{w:World}{K:Af}{mg:Str->Option Value}{base:Heap}
def Ie:Sp:=fun vs H Q _=>∃(r:Addr)(rn:List Int)(k:Nat),vs=[.ref r]/\H r=some (.lst (rn.map V.int))/\(∀i,i<k->rn[i]?=some 0)/\(∃x,rn[k]?=some x/\x≠0)/\Q (.int k) H
def EN:zm ["row","place"] ["row"] (ze CP):=⟨rfl,rfl,rfl,δ,rfl,δ,δ⟩
def NJ{f:Addr}{fd:FuncData}(F:Fun K "first_place" "first_place" CP f fd):ar P w K mg base aK 1 f fd ["row"] Ie:=by
 refine F.ok EN (fun vs H Q E h=>?_) (fun o A outer s H vs Q E hr h=>?_)
 ·obtain⟨r,rn,k,rfl,_⟩:=h;rfl
 ·obtain⟨r,rn,k,rfl,h1,g,⟨x,hx,l⟩,hq⟩:=h
  refine⟨_,zb (zj (i:=1) EN.nd rfl (Or.inl rfl) zd)
   (zb (pQ A0 (zw fX (zu zr (pv 0) (pv 1) (fun _ _=>rfl)) zd (av _))
    (zg (zj (i:=1) EN.nd rfl (Or.inl rfl) (zt dU (pv 1) zd))))
   (zg (zq (pv 1)))),?_⟩
  refine⟨fun n σ a=>∃i:Nat,n=k-i/\i<=k/\σ=[some (.ref r),some (.int i)]/\a=H,⟨_,0,rfl,ω,rfl,rfl⟩,?_⟩;rintro n σ a ⟨i,rfl,hi,rfl,rfl⟩;obtain⟨y,hy,e⟩:∃y,rn[i]?=some y/\(y=0↔i<k):=by
   rcases Bh i k with c|c
   ·exact⟨0,g i c,by simp[c]⟩
   ·have:i=k:=ω
    subst this;exact⟨x,hx,by simp[l]⟩
  refine⟨_,rfl,_,rfl,r,_,_,_,rfl,rfl,SqL.of h1,zh (j:=i) (v:=V.int y) (by rw[Aj,hy];rfl),rfl,_,rfl,?_⟩
  by_cases c:i<k
  ·rw[show decide (V.int y=V.int 0)=true by rw[e.mpr c];rfl]
   refine aW ⟨fun b H'=>∃d,d<k-i/\∃i:Nat,d=k-i/\i<=k/\b=[some (.ref r),some (.int i)]/\H'=a,fun b H' h=>h,?_⟩;exact⟨_,rfl,_,_,rfl,rfl,k-(i+1),ω,i+1,rfl,ω,rfl,rfl⟩
  ·rw[show decide (V.int y=V.int 0)=false from decide_eq_false fun z=>c (e.mp (by injection z))]
   have:i=k:=ω
   subst this;exact aR ⟨_,rfl,hq⟩
end
end K22
end
section
namespace K22
open PySem L2
abbrev sQ:Stmt:=top 38
def NK:A4 "tuple"=some (.type "tuple"):=δ
section
variable{P:Program}{w:World}{K:Af}{mg:Str->Option Value}{base:Heap}
def NL{H2:Hp}{r o D:Addr}{rn on:List Int}{f:Int->Int->Int}{te:TE}{c:List (Option V)}{Q:VK}(v:∀(a b:Int)(H:Hp)(R:VK),a∈rn->b∈on->R (.int (f a b)) H->te (some (.int a)::some (.int b)::c) H R)(h1:H2 r=some (.tup (rn.map V.int)))(h2:H2 o=some (.tup (on.map V.int)))(n2:on.length<=1000)(s:H2 D=none)(k:∀d,Same H2 d->d D=some (.lst ((AH f rn on).map V.int))->Q (.ref D) d):cm (Bv K r o) (cw K 2 (cz (zH 0) (cz (zH 1) cv))) bx te (none::none::c) H2 D Q:=by
 refine MX (K:=K) (xs:=rn.map V.int) (ys:=on.map V.int) (fun i σ zs d=>∃j l,σ=j::l::c/\Same H2 d/\d D=some (.lst zs)/\zs=((AH f rn on).take i).map V.int)
  ⟨none,none,rfl,Same.new s,za,rfl⟩ (fun i σ zs d ⟨_,_,_,sm,_⟩=>⟨SqT.of (sm _ _ h1),SqT.of (sm _ _ h2)⟩) ?_ ?_
 ·rintro i σ zs d u w x e1 e2 hi hz ⟨j,l,rfl,h,e,rfl⟩ g
  obtain⟨p,g1,rfl⟩:=eV e1;obtain⟨q,g2,rfl⟩:=eV e2;refine⟨u,_,rfl,SqT.of za,rfl,_,_,rfl,_,_,rfl,rfl,fK ?_⟩;refine v p q _ _ (Am g1) (Am g2) (bB (Ag (Nat.min_le_right _ _) (by rw[Aa];exact zp ω)) hi hz (by rw[ao (zk e g)];exact e) ⟨_,_,rfl,?_,za,?_⟩)
  ·exact(h.then (h.free g)).then s
  ·have e3:(AH f rn on)[i]?=some (f p q):=by rw[List.getElem?_zipWith,g1,g2]
   rw[A8 e3,Aq];rfl
 ·rintro σ zs d ⟨j,l,rfl,h,e,rfl⟩
  refine k d h ?_;rw[e,An (by simp)]
abbrev Tr(H:Hp)(p:Addr)(a b c:Int):Prop:=H p=some (.tup [.int a,.int b,.int c])
def Ig:Sp:=fun vs H Q _=>∃x y:Int,vs=[.int x,.int y]/\0<x/\0<y/\x.natAbs<2 ^ 9000/\y.natAbs<2 ^ 9000/\
 ∀r p q H' a b c l1 l2,Same H H'->H' r=some (.tup [.ref p,.ref q])->Tr H' p a b c->Tr H' q 0 l1 l2->Tb.GI x y a b c 0 l1 l2->Q (.ref r) H'
def k9:zm ["one","other","told","left","often","rest"] ["one","other"] (ze sQ):=⟨rfl,rfl,rfl,δ,rfl,δ,δ⟩
def NM{f:Addr}{fd:FuncData}(F:Fun K "divisor_pair" "divisor_pair" sQ f fd)(bz:mg "zip"=none)(bt:mg "tuple"=none):ar P w K mg base aK 1 f fd ["one","other"] Ig:=by
 refine F.ok k9 (fun vs H Q E h=>?_) (fun ai A outer s H vs Q E hr h=>?_)
 ·obtain⟨x,y,rfl,_⟩:=h;rfl
 ·obtain⟨x,y,rfl,x0,y0,W,X,k⟩:=h
  refine⟨_,zb (zj (i:=2) k9.nd rfl (Or.inl rfl) (il (af (pv 0) (af zd (af zd ah)))))
   (zb (zj (i:=3) k9.nd rfl (Or.inl rfl) (il (af (pv 1) (af zd (af zd ah)))))
   (zb (pQ A0 (zw ik (zu zD (pv 3) zd (fun _ _=>rfl)) zd (av _))
    (zb (zj (i:=4) k9.nd rfl (Or.inr rfl) (zt Ci (zu zD (pv 2) zd (fun _ _=>rfl)) (zu zD (pv 3) zd (fun _ _=>rfl))))
    (zb (zj (i:=5) k9.nd rfl (Or.inl rfl) (qf LZ rfl bt NK (af (zx ["one","other","told","left","often","rest"] ["high","low","often"] [none,none,some 4] (MU rfl bz nR (af (pv 2) (af (pv 3) ah)))
     (fun M C s₀ H₀ ex=>jM rfl (zM (zl (i:=0) (bF ["high","low","often"]) rfl (Or.inl rfl)) (zM (zl (i:=1) (bF ["high","low","often"]) rfl (Or.inl rfl)) jK))) (fun M C s₀ H₀ ex=>zA)
     (fun M C s₀ H₀ ex=>zt fy (pv 0) (zt nQ (pv 2) (pv 1))) (te:=bI (eO fun i j=>.int (i-j)) (aw 0) (bI (rI ey fun i j=>.int (i*j)) (aw 2) (aw 1))) (hfr:=a_ (ze sQ) δ) (g:=cw K 2 (cz (zH 0) (cz (zH 1) cv)))) ah)))
    (zb (zj (i:=2) k9.nd rfl (Or.inl rfl) (pv 3))
    (zg (zj (i:=3) k9.nd rfl (Or.inl rfl) (pv 5)))))))
   (zg (zq (il (af (pv 2) (af (pv 3) ah))))))),?_⟩
  refine⟨_,rfl,zp (show 3<=100000 from ξ),fun T q=>⟨_,rfl,zp (show 3<=100000 from ξ),fun L e=>?_⟩⟩;have Y:T≠L:=zk za e;refine⟨fun n σ G=>∃(T L:Addr)(d l p l0 l1 l2:Int)(r u:Option V),n=l0.natAbs/\σ=[some (.int x),some (.int y),some (.ref T),some (.ref L),r,u]/\Same H G/\Tr G T d l p/\Tr G L l0 l1 l2/\Tb.GI x y d l p l0 l1 l2/\d.natAbs<2 ^ 9000/\l0.natAbs<2 ^ 9000,
   ⟨_,T,L,x,1,0,y,0,1,none,none,rfl,rfl,(Same.new q).trans (Same.new e),(by show upd _ L _ T=_;rw[ao Y];exact za),za,Tb.GI.start x0 y0,W,X⟩,?_⟩
  clear e Y;clear q T L;rintro n σ G ⟨T,L,d,l,p,l0,l1,l2,r,u,rfl,rfl,sm,q,e,g,tb,v⟩;refine⟨_,rfl,L,_,_,_,rfl,rfl,SqT.of e,zh (j:=0) rfl,rfl,_,rfl,?_⟩
  by_cases c:l0=0
  ·rw[show(!decide (V.int l0=V.int 0))=false by rw[c];rfl]
   subst c;refine aR ⟨_,rfl,_,rfl,zp (show 2<=100000 from ξ),fun R I=>?_⟩;have J:=Same.new (o:=.tup [.ref T,.ref L]) I;exact k R T L _ d l p l1 l2 (sm.trans J) za (J _ _ q) (J _ _ e) g
  ·rw[show(!decide (V.int l0=V.int 0))=true by rw[decide_eq_false (fun z=>c (by injection z))];rfl]
   obtain⟨g2,lt⟩:=g.next c;have yg:0<l0:=by have:=g.lp;(first|lia|omega)
   have q0:0<=d / l0:=Int.ediv_nonneg (Int.le_of_lt g.tp) g.lp;have x6:(d / l0).natAbs<=d.natAbs:=Int.natAbs_ediv_le_natAbs _ _;have Z:=g.le;refine aW ⟨fun O H'=>∃U,U<l0.natAbs/\∃(T L:Addr)(d l p l0 l1 l2:Int)(r u:Option V),U=l0.natAbs/\O=[some (.int x),some (.int y),some (.ref T),some (.ref L),r,u]/\Same H H'/\Tr H' T d l p/\Tr H' L l0 l1 l2/\Tb.GI x y d l p l0 l1 l2/\d.natAbs<2 ^ 9000/\l0.natAbs<2 ^ 9000,fun O H' h=>h,?_⟩;refine⟨_,rfl,T,_,_,_,rfl,rfl,SqT.of q,zh (j:=0) rfl,_,rfl,L,_,_,_,rfl,rfl,SqT.of e,zh (j:=0) rfl,_,_,rfl,rfl,⟨yg,v⟩,?_⟩;refine⟨_,rfl,_,rfl,T,L,rfl,⟨_,SqT.of q⟩,⟨_,SqT.of e⟩,fun D hD=>zy (NL (rn:=[d,l,p]) (on:=[l0,l1,l2]) (f:=fun a b=>a-d / l0*b) (fun a b H' R _ hb I=>?_) q e (by simp) hD fun H4 S cr=>?_)⟩
   ·refine⟨_,rfl,_,rfl,_,rfl,_,_,rfl,rfl,⟨9000,9000,Ax x6 tb,?_,ξ⟩,_,_,rfl,rfl,I⟩
    simp at hb;rcases hb with rfl|rfl|rfl
    ·exact v
    ·exact Ax Z.1 X
    ·exact Ax Z.2 W
   ·refine⟨D,_,rfl,.inl ⟨SqL.of cr,fun N hN=>?_⟩⟩
    have s5:=Same.new (o:=.tup (([d-d / l0*l0,l-d / l0*l1,p-d / l0*l2]:List Int).map V.int)) hN;refine⟨_,rfl,_,rfl,(d-d / l0*l0).natAbs,by have:=g2.lp;(first|lia|omega),L,N,l0,l1,l2,_,_,_,_,_,rfl,rfl,(sm.trans S).trans s5,(S.trans s5) _ _ e,za,g2,v,?_⟩;have:=g2.lp;exact Nat.lt_trans ω v
end
end K22
end
section
namespace STb
open PySem PySem.SetTable PyProof.Rows cn PySem.W
section
variable{prog:Program}{w:World}{A:Around}{E:Ω}{s:Shared}{S:Addr}
def NN{T:String}{r d:Addr}{n:Nat}{P:Nat->Value->Prop}{j:Heap->Prop}{R:List Value->Shared->Prop}(K:KdlSrc prog w T r d n P j)(p:A.handled=none)(i:j s.heap)(hn:n<=sizeLine)(h:∀(h':Heap)(tk:Nat)(acc:Array Value),s⁻¹<=h'.objs.size->(∀b o,s.heap.get? b=some o->h'.get? b=some o)->ItemsOf P acc n->R acc.toList {s with heap:=h',toks:=tk}):wpAny (model prog w) A (collect (.ref r)) R E s:=by
 obtain⟨hr,hd⟩:=K.there _ i;unfold collect;refine Ad (wpAny_runValue (codeAny_builtin entry_proto_collect' ?_));rw[Around.under_plainId PySem.F.plain_proto_collect _];show wpAny _ A.in1 (do again (.builtin "list.__iadd__" ⟨[<-newList [],.ref r],[]⟩)) _ _ s;refine Ad (wpAny_newObj_type (Ao ⟨plainId_quiet PySem.F.plain_list_iadd _,codeAny_builtin entry_list_iadd' ?_⟩));rw[Around.under_plainId PySem.F.plain_list_iadd _];show wpAny _ A.in1 (Builtin.List.listExtendWith (.ref s⁻¹) (.ref r) (.ref s⁻¹)) _ _ _;have fin:∀(h':Heap)(tk:Nat)(acc:Array Value)(c:Nat),(∀b o,s.heap.get? b=some o->h'.get? b=some o)->h'.get? s⁻¹=some {cls:=.type "list",dict:=none,data:=.seq acc c,slots:=#[]}->ItemsOf P acc n->
   wpAny (model prog w) A (do match (<-load s⁻¹).data with
    |.seq xs _=>pure xs.toList
    |_=>unsupported "internal:collect") R E {s with heap:=h',toks:=tk}:=fun h' tk acc c hk a g=>Ad (wpAny_load a (Ao (h h' tk acc (Nat.le_of_lt (Ar a)) hk g)))
 refine wpAny_mono (kdl_extend (A:=A) (s:={s with heap:=s.heap.push {cls:=.type "list",data:=.seq ([]:List Value).toArray}})
  (R:=fun q s'=>∃h' tk acc c,q=Except.ok (Flow.ret (.ref s⁻¹))/\s'={s with heap:=h',toks:=tk}/\(∀b o,s.heap.get? b=some o->h'.get? b=some o)/\h'.get? s⁻¹=some {cls:=.type "list",dict:=none,data:=.seq acc c,slots:=#[]}/\ItemsOf P acc n)
  K p (K.keep _ _ i fun b _ o e=>Ai _ e) s⁻¹ (Nat.ne_of_gt hr) (Nat.ne_of_gt hd) (.ref s⁻¹) 0 (AK _ rfl)
  (fun h' tk acc c hk a g=>⟨h',tk,acc,c,rfl,rfl,fun b o e=>hk b o (Az (Ar e)) (Ai _ e),a,g⟩) hn) (fun f s' x=>?_) fun e s' x=>?_
 ·cases f with
  |done f=>
   obtain⟨h',tk,acc,c,e,rfl,hk,a,g⟩:=x;cases e;exact fin h' tk acc c hk a g
  |again c₁=>
   refine⟨x.1,codeAny_mono x.2 fun q u y=>?_⟩;obtain⟨h',tk,acc,c,rfl,rfl,hk,a,g⟩:=y;exact fin h' tk acc c hk a g
 ·obtain⟨_,_,_,_,l,_⟩:=x
  cases l
end
end STb
namespace L2
open PySem PySem.Spec PyProof.Rows
section
variable{X:Cx}
def NO{ns:List Int}{ad:List Value}{out:List Value}(hi:IntsAre ad ns)(c:cn.Out (ns.map fun n=>[n]) ad out):∃ms:List Int,Vals (ms.map V.int) out/\ms.Perm ns/\ms.Pairwise (·<=·):=by
 obtain⟨ps,hp,c,d⟩:=c;have g:ad.length=ns.length:=hi.length;have all:∀p∈ps,∃n t,p.1=[n]/\p.2=Value.int n t:=fun p a=>by
  obtain⟨i,e⟩:=List.mem_iff_getElem?.mp (hp.mem_iff.mp a);rw[cn.cS,Aj] at e;cases e1:ns[i]? with
  |none=>rw[e1] at e;simp at e
  |some n=>
   obtain⟨t,e2⟩:=hi.get i n e1;rw[e1,e2] at e;simp only[Option.map_some,Option.bind_some,Option.some.injEq] at e;subst e;exact⟨n,t,rfl,rfl⟩
 have f:∀ps:List (List Int×Value),(∀p∈ps,∃n t,p.1=[n]/\p.2=Value.int n t)->Vals ((ps.map fun p=>p.1.headD 0).map V.int) (ps.map (·.2)):=by
  intro ps
  induction ps with
  |nil=>intro _;exact .nil
  |cons p ps ih=>
   intro h;obtain⟨n,t,e1,e2⟩:=h p At;refine .cons ?_ (ih fun q hq=>h q (Ay _ hq));show RelV (V.int (p.1.headD 0)) p.2;rw[e1,e2];exact⟨t,rfl⟩
 refine⟨ps.map fun p=>p.1.headD 0,by rw[c];exact f ps all,?_,?_⟩
 ·have h1:=hp.map (fun p:List Int×Value=>p.1.headD 0)
  have e:((ns.map fun n=>[n]).zip ad).map (fun p:List Int×Value=>p.1.headD 0)=ns:=by
   rw[show(fun p:List Int×Value=>p.1.headD 0)=(fun l:List Int=>l.headD 0) ∘ Prod.fst from rfl,<-AV,List.map_fst_zip (by rw[Aa];lia),AV];exact List.map_id' ns
  rw[e] at h1;exact h1
 ·rw[List.pairwise_map]
  refine d.imp_of_mem fun{p q} h1 h2 b=>?_;obtain⟨n,t,e1,_⟩:=all p h1;obtain⟨m,t',e2,_⟩:=all q h2;rw[e1,e2,HT.qj] at b;rw[e1,e2];show n<=m
  by_cases e:m=n
  ·lia
  ·rw[if_neg e] at b
   have:=of_decide_eq_false b
   lia
end
end L2
end
section
namespace STb
open PySem PySem.SetTable PyProof.Rows cn PySem.W
section
variable{prog:Program}{w:World}{A:Around}{E:Ω}{s:Shared}
def NP{T:String}{r d:Addr}{n:Nat}{P:Nat->Value->Prop}{j:Heap->Prop}{ns:List Int}{Q:Ω}(K:KdlSrc prog w T r d n P j)(q:A.handled=none)(f:j s.heap)(hn:n<64)(hi:∀acc:Array Value,ItemsOf P acc n->IntsAre acc.toList ns)(h:∀(D:Addr)(h':Heap)(tk e:Nat)(ad:List Value)(out:Array Value),s⁻¹<=D->(∀b o,s.heap.get? b=some o->h'.get? b=some o)->h'.get? D=some (seqObj "list" out e)->IntsAre ad ns->Out (ns.map fun n=>[n]) ad out.toList->Q (.ref D) {s with heap:=h',toks:=tk}):wpAny (model prog w) A (call (.builtin "sorted") [.ref r]) Q E s:=by
 refine Calls.call_function_entry kind_sorted plain_sorted entry_sorted (args_sorted1 _) ?_;unfold Builtin.«sorted»;refine Ad (m:=checkCount "sorted" 1 1 _) (Ao ?_);refine Ad (NN (A:=A.in1) K q f (by rw[sizeLine_eq];(first|lia|omega)) fun h' tk acc a hk g=>?_);have hi:=hi acc g;have i:acc.toList.length=n:=by rw[Array.length_toList];exact g.1
 refine Ad (wpAny_newList ?_ (by rw[i,sizeLine_eq];(first|lia|omega)));have c:(h'.push (seqObj "list" acc.toList.toArray 0)).get? h'.objs.size=some (seqObj "list" acc.toList.toArray 0):=AK _ rfl;refine Ad (wpAny_holding (wpAny_call_entry slot_list_sort ⟨_,c,rfl⟩ entry_list_sort (Nm (s:={s with heap:=h'.push (seqObj "list" acc.toList.toArray 0),toks:=tk}) (good:=fun _=>True) c (Nj hi) (fun _ _=>trivial) (by rw[i,sizeLine_eq];(first|lia|omega)) ω fun out l=>⟨_,rfl,?_⟩) (args_list_sort _)));obtain⟨e,p⟩:=sortedHeap_at (out:=out) c;refine Ao ⟨_,rfl,h h'.objs.size _ tk e acc.toList out a (fun b o e=>?_) p hi l⟩;have hb:b<h'.objs.size:=Ar (hk b o e);rw[sortedHeap_old (Az hb) (by rw[size_push'];exact Nat.lt_succ_of_lt hb)];exact Ai _ (hk b o e)
end
end STb
namespace L2
open PySem PySem.Spec PyProof.Rows
section
variable{X:Cx}
abbrev dZ(ps:List (Int×V)):HO:=.dK (ps.map fun p=>(Sum.inl p.1,p.2))
def ints_of{ps:List (Int×V)}:∀{m:List (Key×Value)}{a:List Value},KV (ps.map fun p=>((Sum.inl p.1:Key),p.2)) m->a.length=m.length->(∀(i:Nat) v,a[i]?=some v->∃k x,m[i]?=some (k,x)/\(zV X.prog X.w).is k v=true)->IntsAre a (ps.map (·.1)):=by
 induction ps with
 |nil=>
  intro m a q h1 _;cases q;cases a with
  |nil=>exact .nil
  |cons _ _=>simp at h1
 |cons p ps ih=>
  intro m a q h1 h2;cases q with
  |@cons _ q' _ qs hq t=>
   cases a with
   |nil=>simp at h1
   |cons v a=>
    obtain⟨k,x,g1,g2⟩:=h2 0 v rfl;simp only[List.getElem?_cons_zero,Option.some.injEq] at g1;have hk:(Sum.inl p.1:Key)=k:=by rw[g1] at hq;exact hq.1
    subst hk;obtain⟨t',e2⟩:∃t',v=Value.int p.1 t':=MY g2;subst e2;exact .cons _ _ (ih t (by simpa using h1) fun i v e=>by simpa using h2 (i+1) v (by simpa using e))
def zZ(hc:X.calm=true):fj X (.builtin "sorted") (fun xs H Q=>∃a ps,xs=[.ref a]/\H a=some (dZ ps)/\ps.length<64/\∀(D:Addr)(ms:List Int),ms.Perm (ps.map (·.1))->ms.Pairwise (·<=·)->H D=none->Q (.ref D) (upd H D (.lst (ms.map V.int)))):=by
 intro aa s σ H xs us Q I r h;obtain⟨a,ps,rfl,hq,hz,q⟩:=h;obtain⟨u,rfl,p⟩:=vals1 r;cases p;obtain⟨z,y,vs,d,dd⟩:=Hs I.hok hq;obtain⟨ep,dd⟩:=dd.dictAt;have C:ps.length=vs.length:=by simpa using d.length
 refine STb.NP (ns:=ps.map (·.1)) (PySem.W.kdl_dict (knd:=zV X.prog X.w) (kvs:=vs) (ep:=ep) y) (I.ok.hd hc) dd ω (fun acc it=>ints_of (X:=X) d (by simpa using it.1) fun i v e=>it.2 i v (by simpa using e)) fun D h' tk e ad out c g j hi l=>?_;obtain⟨ks,x,f,A⟩:=NO hi l;have hk:ks.length=ps.length:=by simpa using f.length_eq
 refine⟨.ref D,_,I.laid (o:=.lst (ks.map V.int)) (fun b u e=>g b u e) c (show zW X.prog X.w _ _ _ (.lst (ks.map V.int)) from⟨by rw[Aa,sizeLine_eq];(first|lia|omega),out.toList,e,x,by simpa using j⟩),rfl,q _ _ f A (I.hok.fresh c)⟩
end
end L2
end
section
namespace L2
open PySem PySem.Spec PyProof.Rows
section
variable{X:Cx}
def NQ{kvs:List (Key×V)}(hn:(kvs.map (·.1)).Nodup){k:Key}{v:V}(h:(k,v)∈kvs):b3 kvs k=some v:=by
 unfold b3
 induction kvs with
 |nil=>cases h
 |cons a r ih=>
  rw[A5,List.nodup_cons] at hn;rcases List.mem_cons.mp h with e|e
  ·subst e
   simp
  ·have b:a.1≠k:=fun z=>hn.1 (by rw[z];exact List.mem_map_of_mem (f:=(·.1)) e)
   rw[List.find?_cons_of_neg (by simpa using b)];exact ih hn.2 e
def NR{kvs:List (Key×V)}{k:Key}(h:∀a∈kvs,a.1≠k):b3 kvs k=none:=by
 unfold b3;rw[List.find?_eq_none.mpr fun a hk=>by simpa using h a hk]
 rfl
end
end L2
end
section
namespace K22
open PySem L2
abbrev jd:Stmt:=top 35
abbrev d0(es:List (Nat×Addr)):List (Int×V):=es.map fun e=>((e.1:Int),V.ref e.2)
structure Fnd(H:Hp)(a:Addr)(es:List (Nat×Addr))(fr:Nat->List Int):Prop where
 at_:H a=some (dZ (d0 es))
 nd:(es.map (·.1)).Nodup
 rows:∀e∈es,H e.2=some (.lst ((fr e.1).map V.int))
def Fnd.same{H H':Hp}{a:Addr}{es:List (Nat×Addr)}{fr:Nat->List Int}(h:Fnd H a es fr)(s:Same H H'):Fnd H' a es fr:=⟨s _ _ h.at_,h.nd,fun e b=>s _ _ (h.rows e b)⟩
def NS{c d:Type}{f:c->d}{l:List c}(g:∀a b,f a=f b->a=b)(h:l.Nodup):(l.map f).Nodup:=by
 rw[List.Nodup,List.pairwise_map];exact h.imp fun n e=>n (g _ _ e)
def Fnd.get{H:Hp}{a:Addr}{es:List (Nat×Addr)}{fr:Nat->List Int}(h:Fnd H a es fr){p:Nat}(hp:p∈es.map (·.1)):∃d,(p,d)∈es/\DGet H a (.int p) (some (.ref d))/\H d=some (.lst ((fr p).map V.int)):=by
 obtain⟨e,c,rfl⟩:=List.mem_map.mp hp;refine⟨e.2,c,?_,h.rows e c⟩;have:=DGet.k (k:=Sum.inl (e.1:Int)) h.at_;rw[NQ (v:=V.ref e.2) ?_ ?_] at this
 ·exact this
 ·have e2:((d0 es).map fun p=>((Sum.inl p.1:Key),p.2)).map (·.1)=(es.map (·.1)).map fun n:Nat=>(Sum.inl (n:Int):Key):=by simp[d0,Function.comp_def]
  rw[e2];exact NS (fun a b z=>by injection z with z;(first|lia|omega)) h.nd
 ·exact List.mem_map.mpr ⟨((e.1:Int),V.ref e.2),List.mem_map.mpr ⟨e,c,rfl⟩,rfl⟩
def cB(fr:Nat->List Int)(l:List Int)(p:Nat):List Int:=cV l (l.getD p 0 / (fr p).getD p 0) (fr p)
def aN(fr:Nat->List Int)(rn:List Int)(ps:List Nat):List Int:=ps.foldl (cB fr) rn
structure j7(fr:Nat->List Int)(W:Nat)(rn:List Int)(ps:List Nat):Prop where
 len:rn.length=W
 most:W<=1000
 row:∀p∈ps,p<W/\(fr p).length=W/\HU 0 ((fr p).getD p 0)
 mul:∀i p,ps[i]?=some p->∀x∈fr p,ey ((aN fr rn (ps.take i)).getD p 0 / (fr p).getD p 0) x
def EO{fr:Nat->List Int}{l:List Int}{p W:Nat}(h:l.length=W)(h2:(fr p).length=W):(cB fr l p).length=W:=by
 unfold cB cV;rw[AF];(first|lia|omega)
def nW{fr:Nat->List Int}{W:Nat}:∀{ps:List Nat}{rn:List Int},rn.length=W->(∀p∈ps,(fr p).length=W)->(aN fr rn ps).length=W
 |[],_,h,_=>h
 |p::ps,rn,h,h2=>nW (ps:=ps) (EO h (h2 p (At ..))) fun q hq=>h2 q (Ay _ hq)
def CQ{fr:Nat->List Int}{rn:List Int}{ps:List Nat}{i p:Nat}(h:ps[i]?=some p):aN fr rn (ps.take (i+1))=cB fr (aN fr rn (ps.take i)) p:=by
 rw[A8 h];unfold aN;rw[List.foldl_append];rfl
def EQ{l on:List Int}(h:l.length=on.length):cV l 0 on=l:=by
 unfold cV;refine AX (by rw[AF];(first|lia|omega)) fun i h1 h2=>?_;rw[A7];(first|lia|omega)
section
variable{P:Program}{w:World}{K:Af}{mg:Str->Option Value}{base:Heap}
def Ih:Sp:=fun vs H Q _=>∃(r a pl:Addr)(rn:List Int)(es:List (Nat×Addr))(fr:Nat->List Int)(ps:List Nat)(W:Nat),vs=[.ref r,.ref a,.ref pl]/\H r=some (.lst (rn.map V.int))/\Fnd H a es fr/\H pl=some (.lst (ps.map fun p:Nat=>V.int (p:Int)))/\
 (∀p∈ps,p∈es.map (·.1))/\j7 fr W rn ps/\∀D H',Same H H'->H' D=some (.lst ((aN fr rn ps).map V.int))->Q (.ref D) H'
def sR:zm ["row","found","places","left","place","often"] ["row","found","places"] (ze jd):=⟨rfl,rfl,rfl,δ,rfl,δ,δ⟩
def NU{f o:Addr}{fd u:FuncData}(F:Fun K "reduced" "reduced" jd f fd)(Fl:Fun K "less" "less" j4 o u)(bl:Binds K u ["row","often","other"] [])(M:mg "less"=some (.ref o))(Gl:ar P w K mg base aK 1 o u ["row","often","other"] sy):ar P w K mg base aK 2 f fd ["row","found","places"] Ih:=by
 refine F.ok sR (fun vs H Q E h=>?_) (fun N A outer s H vs Q E hr h=>?_)
 ·obtain⟨r,a,pl,rn,es,fr,ps,W,rfl,_⟩:=h;rfl
 ·obtain⟨r,a,pl,rn,es,fr,ps,W,rfl,h1,I,b,J,ok,k⟩:=h
  have hu:=y_ hr;refine⟨_,zb (zj (i:=3) sR.nd rfl (Or.inl rfl) (pv 0))
   (zb (fh A0 rfl (zF (pv 2)) (zl (i:=4) sR.nd rfl (Or.inl rfl))
    (zb (zj (i:=5) sR.nd rfl (Or.inl rfl) (zt Ci (zu zr (pv 3) (pv 4) (fun _ _=>rfl)) (zu zr (kI hu (pv 1) (pv 4) (fun _ _=>rfl)) (pv 4) (fun _ _=>rfl))))
    (zg (cT (zw ik (pv 5) zd (av _))
     (zg (zj (i:=3) sR.nd rfl (Or.inl rfl) (zf Gl hr rfl M Fl.kp bl .nil ak (af (pv 3) (af (pv 5) (af (kI hu (pv 1) (pv 4) (fun _ _=>rfl)) ah)))))) zL))))
   (zg (zq (pv 3)))),?_⟩
  refine⟨_,rfl,_,rfl,pl,rfl,⟨_,SqL.of b⟩,mS (K:=K) (a:=pl) (xs:=ps.map fun p:Nat=>V.int (p:Int)) (fun i σ H2=>∃(d:Addr)(j l:Option V),σ=[some (.ref r),some (.ref a),some (.ref pl),some (.ref d),j,l]/\Same H H2/\H2 d=some (.lst ((aN fr rn (ps.take i)).map V.int)))
   ⟨r,none,none,rfl,Same.refl H,h1⟩ (fun i σ H2 _ ⟨_,_,_,_,sm,_⟩=>SqL.of (sm _ _ b)) ?_ ?_⟩
  ·rintro i x σ H2 hx ⟨d,j,l,rfl,sm,hd⟩
   obtain⟨p,hp,rfl⟩:∃p,ps[i]?=some p/\x=V.int (p:Int):=by
    rw[Aj] at hx;cases e:ps[i]? with
    |none=>rw[e] at hx;cases hx
    |some p=>rw[e] at hx;cases hx;exact⟨p,rfl,rfl⟩
   have C:=Am hp;obtain⟨O,S,L⟩:=ok.row p C;obtain⟨c,hc,v,y⟩:=(I.same sm).get (J p C);have T:(aN fr rn (ps.take i)).length=W:=nW ok.len fun q hq=>(ok.row q (List.mem_of_mem_take hq)).2.1;have g1:((aN fr rn (ps.take i)).map V.int)[p]?=some (V.int ((aN fr rn (ps.take i)).getD p 0)):=by
    rw[Aj,Ab,Ac ω];rfl
   have g2:((fr p).map V.int)[p]?=some (V.int ((fr p).getD p 0)):=by
    rw[Aj,Ab,Ac ω];rfl
   refine⟨_,rfl,_,rfl,d,_,_,_,rfl,rfl,SqL.of hd,zh g1,_,rfl,_,rfl,a,_,rfl,v,_,rfl,c,_,_,_,rfl,rfl,SqL.of y,zh g2,_,_,rfl,rfl,L,?_⟩;refine⟨_,rfl,rfl,_,rfl,?_⟩
   by_cases z:(aN fr rn (ps.take i)).getD p 0 / (fr p).getD p 0=0
   ·rw[show(!decide (V.int ((aN fr rn (ps.take i)).getD p 0 / (fr p).getD p 0)=V.int 0))=false by rw[z];rfl]
    refine aR ⟨d,_,_,rfl,sm,?_⟩;rw[CQ hp,cB,z,EQ ω];exact hd
   ·rw[show(!decide (V.int ((aN fr rn (ps.take i)).getD p 0 / (fr p).getD p 0)=V.int 0))=true by rw[decide_eq_false (fun e=>z (by injection e))];rfl]
    refine aW ⟨_,rfl,_,rfl,_,rfl,_,rfl,a,_,rfl,v,d,c,_,_,_,rfl,hd,y,by have:=ok.most;(first|lia|omega),ok.mul i p hp,fun D U G _ g=>?_⟩;refine⟨D,_,_,rfl,sm.trans G,?_⟩;rw[CQ hp];exact g
  ·rintro σ H2 ⟨d,j,l,rfl,sm,hd⟩
   rw[Aa,An (Ae _)] at hd;exact⟨_,rfl,k d H2 sm hd⟩
end
abbrev jf:Stmt:=top 41
def sU:A4 "sorted"=some (.builtin "sorted"):=δ
structure Pls(es:List (Nat×Addr))(ps:List Nat):Prop where
 pm:ps.Perm (es.map (·.1))
 so:ps.Pairwise (·<=·)
def Pls.ints{es:List (Nat×Addr)}{ps:List Nat}(h:Pls es ps){ms:List Int}(h1:ms.Perm ((d0 es).map (·.1)))(h2:ms.Pairwise (·<=·)):ms.map V.int=ps.map fun p:Nat=>V.int (p:Int):=by
 have e:ms=ps.map fun p:Nat=>(p:Int):=by
  refine List.Perm.eq_of_pairwise (le:=(·<=·)) (fun a b _ _ x y=>Int.le_antisymm x y) h2 ?_ (h1.trans ?_)
  ·rw[List.pairwise_map];exact h.so.imp fun z=>ω
  ·have:(d0 es).map (·.1)=(es.map (·.1)).map fun p:Nat=>(p:Int):=by simp[d0,Function.comp_def]
   rw[this];exact(h.pm.map _).symm
 rw[e,AV];rfl
def Pls.len{es:List (Nat×Addr)}{ps:List Nat}(h:Pls es ps):ps.length=es.length:=by rw[h.pm.length_eq,Aa]
def shrL(fr:Nat->List Int):List Int->List Nat->List Int
 |_,[]=>[]
 |l,p::ps=>(l.getD p 0 / (fr p).getD p 0)::shrL fr (cB fr l p) ps
def Ii{fr:Nat->List Int}:∀{ps:List Nat}{rn:List Int}{i p:Nat},ps[i]?=some p->(shrL fr rn ps)[i]?=some ((aN fr rn (ps.take i)).getD p 0 / (fr p).getD p 0)
 |[],_,_,_,h=>by simp at h
 |q::ps,rn,0,p,h=>by simp at h;subst h;rfl
 |q::ps,rn,i+1,p,h=>by
  have:=Ii (fr:=fr) (ps:=ps) (rn:=cB fr rn q) (i:=i) (p:=p) (by simpa using h)
  simpa[shrL,aN] using this
def sW{fr:Nat->List Int}:∀{ps:List Nat}{rn:List Int},(shrL fr rn ps).length=ps.length
 |[],_=>rfl
 |q::ps,rn=>by simp[shrL,sW (ps:=ps)]
section
variable{P:Program}{w:World}{K:Af}{mg:Str->Option Value}{base:Heap}
def ER:Sp:=fun vs H Q _=>∃(r a:Addr)(rn:List Int)(es:List (Nat×Addr))(fr:Nat->List Int)(ps:List Nat)(W:Nat),vs=[.ref r,.ref a]/\H r=some (.lst (rn.map V.int))/\Fnd H a es fr/\Pls es ps/\es.length<64/\j7 fr W rn ps/\nV H Q (shrL fr rn ps)
def nX:zm ["row","found","told","left","place","often"] ["row","found"] (ze jf):=⟨rfl,rfl,rfl,δ,rfl,δ,δ⟩
def NV{f N:Addr}{fd O:FuncData}(F:Fun K "shares_of" "shares_of" jf f fd)(bs:mg "sorted"=none)(Fl:Fun K "less" "less" j4 N O)(bl:Binds K O ["row","often","other"] [])(ml:mg "less"=some (.ref N))(Gl:ar P w K mg base aK 1 N O ["row","often","other"] sy):ar P w K mg base aK 2 f fd ["row","found"] ER:=by
 refine F.ok nX (fun vs H Q E h=>?_) (fun ai A outer s H vs Q E hr h=>?_)
 ·obtain⟨r,a,rn,es,fr,ps,W,rfl,_⟩:=h;rfl
 ·obtain⟨r,a,rn,es,fr,ps,W,rfl,h1,u,pls,e_,ok,k⟩:=h
  have hu:=y_ hr;refine⟨_,zb (zj (i:=2) nX.nd rfl (Or.inl rfl) (zX ah))
   (zb (zj (i:=3) nX.nd rfl (Or.inl rfl) (pv 0))
   (zb (fh A0 rfl (zF (zi (zZ rfl) rfl bs sU (af (pv 1) ah))) (zl (i:=4) nX.nd rfl (Or.inl rfl))
    (zb (zj (i:=5) nX.nd rfl (Or.inl rfl) (zt Ci (zu zr (pv 3) (pv 4) (fun _ _=>rfl)) (zu zr (kI hu (pv 1) (pv 4) (fun _ _=>rfl)) (pv 4) (fun _ _=>rfl))))
    (zb (mO (qE PySem.F.plainAttrs_list PySem.F.slot_list_append PySem.F.type_list_append yJ (pv 2) (af (pv 5) ah)))
    (zg (cT (zw ik (pv 5) zd (av _))
     (zg (zj (i:=3) nX.nd rfl (Or.inl rfl) (zf Gl hr rfl ml Fl.kp bl .nil ak (af (pv 3) (af (pv 5) (af (kI hu (pv 1) (pv 4) (fun _ _=>rfl)) ah)))))) zL)))))
   (zg (zq (pv 2))))),?_⟩
  refine⟨ξ,fun T l=>⟨_,rfl,_,rfl,a,d0 es,rfl,?_,(by simpa using e_),fun j ms pm so S=>⟨j,rfl,⟨_,SqL.of za⟩,?_⟩⟩⟩
  ·have:a≠T:=zk u.at_ l
   rw[ao this];exact u.at_
  rw[pls.ints pm so];have X:T≠j:=zk za S;have Y:Same H (upd (upd H T (.lst [])) j (.lst (ps.map fun p:Nat=>V.int (p:Int)))):=(Same.new l).trans (Same.new S);have Cn:=pls.len;refine mS (K:=K) (a:=j) (xs:=ps.map fun p:Nat=>V.int (p:Int)) (fun i σ H2=>∃(d:Addr)(C G:Option V),σ=[some (.ref r),some (.ref a),some (.ref T),some (.ref d),C,G]/\Same H H2/\H2 j=some (.lst (ps.map fun p:Nat=>V.int (p:Int)))/\H2 T=some (.lst (((shrL fr rn ps).take i).map V.int))/\H2 d=some (.lst ((aN fr rn (ps.take i)).map V.int))/\d≠T)
   ⟨r,none,none,rfl,Y,za,by rw[ao X];exact za,Y _ _ h1,zk h1 l⟩ (fun i σ H2 _ ⟨_,_,_,_,_,h,_⟩=>SqL.of h) ?_ ?_
  ·rintro i x σ H2 hx ⟨d,C,G,rfl,sm,U,o,hd,I⟩
   obtain⟨p,hp,rfl⟩:∃p,ps[i]?=some p/\x=V.int (p:Int):=by
    rw[Aj] at hx;cases e:ps[i]? with
    |none=>rw[e] at hx;cases hx
    |some p=>rw[e] at hx;cases hx;exact⟨p,rfl,rfl⟩
   have Z:=Am hp;obtain⟨pW,fW,cd⟩:=ok.row p Z;have o8:p∈es.map (·.1):=pls.pm.mem_iff.mp Z;obtain⟨c,hc,J,L⟩:=(u.same sm).get o8;have ax:(aN fr rn (ps.take i)).length=W:=nW ok.len fun q hq=>(ok.row q (List.mem_of_mem_take hq)).2.1;have g1:((aN fr rn (ps.take i)).map V.int)[p]?=some (V.int ((aN fr rn (ps.take i)).getD p 0)):=by
    rw[Aj,Ab,Ac ω];rfl
   have g2:((fr p).map V.int)[p]?=some (V.int ((fr p).getD p 0)):=by
    rw[Aj,Ab,Ac ω];rfl
   have g3:=Ii (fr:=fr) (rn:=rn) hp;refine⟨_,rfl,_,rfl,d,_,_,_,rfl,rfl,SqL.of hd,zh g1,_,rfl,_,rfl,a,_,rfl,J,_,rfl,c,_,_,_,rfl,rfl,SqL.of L,zh g2,_,_,rfl,rfl,cd,?_⟩;refine⟨_,rfl,.inl ⟨rfl,_,SqL.of o⟩,_,rfl,T,_,_,rfl,rfl,o,by rw[sizeLine_eq,Aa,List.length_take,sW];(first|lia|omega),?_⟩;have e4:((shrL fr rn ps).take i).map V.int++[V.int ((aN fr rn (ps.take i)).getD p 0 / (fr p).getD p 0)]=((shrL fr rn ps).take (i+1)).map V.int:=by rw[A8 g3,Aq];rfl
   rw[e4];have v:Same H (upd H2 T (.lst (((shrL fr rn ps).take (i+1)).map V.int))):=sm.then l;have M:upd H2 T (.lst (((shrL fr rn ps).take (i+1)).map V.int)) j=some (.lst (ps.map fun p:Nat=>V.int (p:Int))):=by rw[ao X.symm];exact U
   have g:upd H2 T (.lst (((shrL fr rn ps).take (i+1)).map V.int)) d=some (.lst ((aN fr rn (ps.take i)).map V.int)):=by rw[ao I];exact hd
   have b:upd H2 T (.lst (((shrL fr rn ps).take (i+1)).map V.int)) T=some (.lst (((shrL fr rn ps).take (i+1)).map V.int)):=za;generalize upd H2 T (.lst (((shrL fr rn ps).take (i+1)).map V.int))=H3 at v M g b ⊢;refine⟨_,rfl,rfl,_,rfl,?_⟩
   by_cases z:(aN fr rn (ps.take i)).getD p 0 / (fr p).getD p 0=0
   ·rw[show(!decide (V.int ((aN fr rn (ps.take i)).getD p 0 / (fr p).getD p 0)=V.int 0))=false by rw[z];rfl]
    refine aR ⟨d,_,_,rfl,v,M,b,?_,I⟩;rw[CQ hp,cB,z,EQ ω];exact g
   ·rw[show(!decide (V.int ((aN fr rn (ps.take i)).getD p 0 / (fr p).getD p 0)=V.int 0))=true by rw[decide_eq_false (fun e=>z (by injection e))];rfl]
    obtain⟨c,hc,J,L⟩:=(u.same v).get o8;refine aW ⟨_,rfl,_,rfl,_,rfl,_,rfl,a,_,rfl,J,d,c,_,_,_,rfl,g,L,by have:=ok.most;(first|lia|omega),ok.mul i p hp,fun D H4 y hD cr=>?_⟩;refine⟨D,_,_,rfl,v.trans y,y _ _ M,y _ _ b,?_,(zk b hD).symm⟩;rw[CQ hp];exact cr
  ·rintro σ H2 ⟨d,C,G,rfl,sm,U,o,hd,I⟩
   rw[Aa,An (by rw[sW];exact Ae _)] at o;exact⟨_,rfl,k T H2 sm l o⟩
end
end K22
end
section
namespace Tb
def cC(N X B:Nat):Nat:=N*(B*X)
def cW(N B:Nat):Nat:=2*B*B*(1+2*B*B) ^ N
def cG(N B:Nat):Nat:=2*B*(1+N*cW N B)
def cK(N M X B:Nat):Nat:=1+cC N X B+N*(M*(1+B) ^ N*cC N X B)
def nY{a b:Nat}(c:1<=a)(hb:1<=b):1<=a*b:=Nat.mul_pos c hb
def CS{N B:Nat}(a:1<=B):1<=cG N B:=nY (nY ξ a) ω
def Rep.more{R:List Vc}{C:Nat}{v r:Vc}(h:Rep R C v):Rep (R++[r]) C v:=by
 obtain⟨c,h1,h2,e⟩:=h;have d:∀(c:List Int)(R:List Vc),c.length=R.length->∀u,cmb (c++[0]) (R++[r]) u=cmb c R u:=by
  intro c
  induction c with
  |nil=>intro R b u;rw[AG b.symm];show 0*r u+0=0;(first|lia|omega)
  |cons a c ih=>
   intro R b u;cases R with
   |nil=>simp at b
   |cons s R=>show a*s u+cmb (c++[0]) (R++[r]) u=a*s u+cmb c R u;rw[ih R (by simpa using b)]
 refine⟨c++[0],by simp[h1],fun u=>by rw[d c R h1,h2],fun x hx=>?_⟩;rcases List.mem_append.mp hx with h|h
 ·exact e x h
 ·rw[List.mem_singleton.mp h];exact AB _
def Sp.more{R:List Vc}{v:Vc}(h:Sp R v)(S:List Vc)(a:∀r∈R,r∈S):Sp S v:=h.trans fun r hr=>Sp.mem (a r hr)
def Sp.redu{f:Nat->Vc}{S:List Vc}:∀(ps:List Nat){l:Vc},(∀p∈ps,Sp S (f p))->(Sp S l↔Sp S (aY f ps l))
 |[],_,_=>Iff.rfl
 |p::ps,l,h=>by
  refine Iff.trans ?_ (Sp.redu ps fun q hq=>h q (.tail _ hq));exact⟨fun a=>a.sub (h p (.head _)) _,fun a=>(a.sub (h p (.head _)) (-(l p / f p p))).eq fun u=>by unfold step;rw[Int.neg_mul];(first|lia|omega)⟩
structure TS(N M X B:Nat)(R:List Vc)(P:List Nat)(f:Nat->Vc)(l:Vc)(t:Nat):Prop where
 ech:Ech P f
 srt:P.Pairwise (·<·)
 len:P.length+1=R.length
 few:R.length<=N
 fr:∀p∈P,Rep R (cK N M X B*cG N B ^ (P.filter fun p=>decide (p<t)).length) (f p)
 lr:Rep R (cK N M X B*cG N B ^ (P.filter fun p=>decide (p<t)).length) l
 gen:∀r∈R,Sp (P.map f++[l]) r
 low:∀i,i<t->l i=0
 red:∀p∈P,0<=l p/\l p<f p p
 piv:∀p∈P,(f p p).natAbs<=B
 fv:∀p∈P,∀q∈P,(f p q).natAbs<=2*B*B
 fo:∀p∈P,t<=p->∀q∈P,(f p q).natAbs<=B
def put(f:Nat->Vc)(p:Nat)(v:Vc):Nat->Vc:=fun q=>if q=p then v else f q
def zK{f:Nat->Vc}{p:Nat}{v:Vc}:put f p v p=v:=if_pos rfl
def dh{f:Nat->Vc}{p q:Nat}{v:Vc}(h:q≠p):put f p v q=f q:=if_neg h
def mix(a:Int)(v:Vc)(b:Int)(w:Vc):Vc:=fun u=>a*v u+b*w u
def TS.next{N M X B:Nat}{R:List Vc}{P:List Nat}{f:Nat->Vc}{l:Vc}{t p:Nat}{g a b c d:Int}(hB:1<=B)(T:TS N M X B R P f l t)(hp:p∈P)(A:∀i,i<p->l i=0)(oV:l p≠0)(iz:t<=p)(G:GI (f p p) (l p) g a b 0 c d):TS N M X B R P (put f p (mix a (f p) b l)) (aY (put f p (mix a (f p) b l)) P (mix c (f p) d l)) (p+1)/\Ech P (put f p (mix a (f p) b l)):=by
 have hG:=CS (N:=N) hB;have x0:=T.ech.pos p hp;obtain⟨r0,r1⟩:=T.red p hp;have J:=T.piv p hp;obtain⟨c1,c2⟩:=G.le;have a1:a.natAbs<=B:=Ag G.b1 ω;have L:b.natAbs<=B:=Ag G.b2 J;have c1:c.natAbs<=B:=Ag c1 ω;have d1:d.natAbs<=B:=Ag c2 J;have lq:∀q∈P,(l q).natAbs<=B:=fun q hq=>by have:=T.red q hq;have:=T.piv q hq;(first|lia|omega)
 have fp:=T.fo p hp iz;have O:∀{a b:Int},a.natAbs<=B->b.natAbs<=B->∀q∈P,(mix a (f p) b l q).natAbs<=2*B*B:=fun{a b} F hb q hq=>by
  have t1:(a*f p q).natAbs<=B*B:=by rw[AD];exact AL F (fp q hq)
  have t2:(b*l q).natAbs<=B*B:=by rw[AD];exact AL hb (lq q hq)
  have t3:=Int.natAbs_add_le (a*f p q) (b*l q);show(a*f p q+b*l q).natAbs<=_;rw[AN];generalize B*B=Y at t1 t2 ⊢;(first|lia|omega)
 have C:mix a (f p) b l p=g:=by show a*f p p+b*l p=g;exact G.t.symm
 have g1:=G.tp;have jT:g.natAbs<=B:=by
  have S:=G.m2;rw[Int.natAbs_zero,Nat.mul_zero,Nat.add_zero] at S;rcases Nat.eq_zero_or_pos d.natAbs with z|z
  ·rw[z,Nat.zero_mul] at S;(first|lia|omega)
  ·have:1*g.natAbs<=d.natAbs*g.natAbs:=Al _ z
   (first|lia|omega)
 have j:Ech P (put f p (mix a (f p) b l)):=by
  refine⟨fun q hq i hi=>?_,fun q hq=>?_⟩
  ·by_cases e:q=p
   ·subst e;rw[zK];show a*f q i+b*l i=0;rw[T.ech.z q hq i hi,A i hi];(first|lia|omega)
   ·rw[dh e];exact T.ech.z q hq i hi
  ·by_cases e:q=p
   ·subst e;rw[zK,C];exact g1
   ·rw[dh e];exact T.ech.pos q hq
 refine⟨?_,j⟩;have D:P.length<=N:=by have:=T.len;have:=T.few;(first|lia|omega)
 generalize hK:cK N M X B*cG N B ^ (P.filter fun p=>decide (p<t)).length=K;have fr:=T.fr;have U:=T.lr;rw[hK] at fr U;have W:∀{a b:Int},a.natAbs<=B->b.natAbs<=B->Rep R (2*B*K) (mix a (f p) b l):=fun{a b} F hb=>((fr p hp).lin U F hb).mono (by rw[AN];(first|lia|omega));have kl:K<=2*B*K:=Nat.le_mul_of_pos_left _ ω;have dq:∀q∈P,Rep R (2*B*K) (put f p (mix a (f p) b l) q):=fun q hq=>by
  by_cases e:q=p
  ·subst e;rw[zK];exact W a1 L
  ·rw[dh e];exact(fr q hq).mono kl
 have E:∀q∈P,∀r∈P,(put f p (mix a (f p) b l) q r).natAbs<=2*B*B:=fun q hq r hr=>by
  by_cases e:q=p
  ·subst e;rw[zK];exact O a1 L r hr
  ·rw[dh e];exact T.fv q hq r hr
 obtain⟨nB,BZ⟩:=k7 dq E j.pos P (fun q hq=>hq) (W c1 d1) (O c1 d1);have cnt:(P.filter fun q=>decide (q<t)).length+1<=(P.filter fun q=>decide (q<p+1)).length:=by
  have h1:(P.filter fun q=>decide (q<t))++[p] ⊆ P.filter fun q=>decide (q<p+1):=fun q hq=>by
   rcases List.mem_append.mp hq with h|h
   ·obtain⟨h1,h2⟩:=List.mem_filter.mp h
    have:=of_decide_eq_true h2;exact List.mem_filter.mpr ⟨h1,decide_eq_true ω⟩
   ·rw[List.mem_singleton.mp h];exact List.mem_filter.mpr ⟨hp,decide_eq_true ω⟩
  have nd:P.Nodup:=T.srt.imp fun h=>Az h;have I:((P.filter fun q=>decide (q<t))++[p]).Nodup:=by
   rw[List.nodup_append];refine⟨nd.filter _,by simp,fun x hx y hy=>?_⟩;rw[List.mem_singleton.mp hy];have:=of_decide_eq_true (List.mem_filter.mp hx).2;(first|lia|omega)
  have:=I.length_le_of_subset h1
  simpa using this
 have o:2*B*K+P.length*(2*B*B*(1+2*B*B) ^ P.length*(2*B*K))<=cG N B*K:=by
  unfold cG cW;have h1:(1+2*B*B) ^ P.length<=(1+2*B*B) ^ N:=AA ω D;generalize 2*B*B=Y at h1 ⊢;have h2:P.length*(Y*(1+Y) ^ P.length*(2*B*K))<=N*(Y*(1+Y) ^ N*(2*B*K)):=AL D (Al _ (Ak _ h1));refine Ag (Nat.add_le_add_left h2 _) (Nat.le_of_eq ?_);generalize Y*(1+Y) ^ N=Z;generalize 2*B=Q;rw[Nat.mul_add,Nat.mul_one,Nat.add_mul,<-AN N Z,Nat.mul_comm Q (N*Z),AN (N*Z)]
 have v:cG N B*K<=cK N M X B*cG N B ^ (P.filter fun q=>decide (q<p+1)).length:=by
  rw[<-hK,Nat.mul_left_comm,<-Nat.pow_succ'];exact Ak _ (AA hG cnt)
 have two:2*B*K<=cG N B*K:=Ag (Bb _ _) o;have det:=G.det;refine⟨j,T.srt,T.len,T.few,fun q hq=>(dq q hq).mono (Ag two v),nB.mono (Ag o v),fun r hr=>?_,?_,fun q hq=>CN j T.srt q hq,fun q hq=>?_,E,fun q hq hlt r hr=>?_⟩
 ·-- eI old rows out of eI new ones
  have S1:∀q∈P,Sp (P.map (put f p (mix a (f p) b l))++[aY (put f p (mix a (f p) b l)) P (mix c (f p) d l)]) (put f p (mix a (f p) b l) q):=fun q hq=>Sp.mem (A6 _ (List.mem_map.mpr ⟨q,hq,rfl⟩));have S2:=(Sp.redu P (l:=mix c (f p) d l) S1).mpr (Sp.mem (AE _ (List.mem_singleton.mpr rfl)));have Sp1:=S1 p hp;rw[zK] at Sp1;have ef:∀{x y z w:Int},(a*d-b*c=1\/a*d-b*c=-1)->∀u,x=(a*d-b*c)*d->y=(a*d-b*c)*(-b)->x*mix a (f p) b l u+y*mix c (f p) d l u=f p u:=fun{x y z w} hd u ex H=>by
   subst ex H;show(a*d-b*c)*d*(a*f p u+b*l u)+(a*d-b*c)*(-b)*(c*f p u+d*l u)=f p u;have e:(a*d-b*c)*d*(a*f p u+b*l u)+(a*d-b*c)*(-b)*(c*f p u+d*l u)=(a*d-b*c)*(a*d-b*c)*f p u:=by
    rw[AR,AR,AR,<-Int.mul_add]
    congr 1
    rw[Int.mul_add,Int.mul_add,Int.neg_mul,Int.neg_mul,<-AR,<-AR,<-AR,<-AR,Int.sub_mul,Bj d a,Bj d b];(first|lia|omega)
   rw[e];rcases hd with h|h<;>rw[h]<;>(first|lia|omega)
  have el:∀{x y:Int},(a*d-b*c=1\/a*d-b*c=-1)->∀u,x=(a*d-b*c)*(-c)->y=(a*d-b*c)*a->x*mix a (f p) b l u+y*mix c (f p) d l u=l u:=fun{x y} hd u ex H=>by
   subst ex H;show(a*d-b*c)*(-c)*(a*f p u+b*l u)+(a*d-b*c)*a*(c*f p u+d*l u)=l u;have e:(a*d-b*c)*(-c)*(a*f p u+b*l u)+(a*d-b*c)*a*(c*f p u+d*l u)=(a*d-b*c)*(a*d-b*c)*l u:=by
    rw[AR,AR,AR,<-Int.mul_add]
    congr 1
    rw[Int.mul_add,Int.mul_add,Int.neg_mul,Int.neg_mul,<-AR,<-AR,<-AR,<-AR,Int.sub_mul,Bj c a,Bj c b];(first|lia|omega)
   rw[e];rcases hd with h|h<;>rw[h]<;>(first|lia|omega)
  have Sf:=(Sp1.lin S2 ((a*d-b*c)*d) ((a*d-b*c)*(-b))).eq (w:=f p) fun u=>(ef (z:=0) (w:=0) det u rfl rfl).symm;have Sl:=(Sp1.lin S2 ((a*d-b*c)*(-c)) ((a*d-b*c)*a)).eq (w:=l) fun u=>(el det u rfl rfl).symm;refine(T.gen r hr).trans fun s hs=>?_;rcases List.mem_append.mp hs with h|h
  ·obtain⟨q,hq,rfl⟩:=List.mem_map.mp h
   by_cases e:q=p
   ·subst e;exact Sf
   ·have:=S1 q hq
    rw[dh e] at this;exact this
  ·rw[List.mem_singleton.mp h];exact Sl
 ·refine Ia j fun i hi=>?_
  show c*f p i+d*l i=0
  by_cases e:i=p
  ·subst e;exact G.l.symm
  ·rw[T.ech.z p hp i ω,A i ω];(first|lia|omega)
 ·by_cases e:q=p
  ·subst e;rw[zK,C];exact jT
  ·rw[dh e];exact T.piv q hq
 ·rw[dh (show q≠p from ω)];exact T.fo q hq ω r hr
def ins(q:Nat):List Nat->List Nat
 |[]=>[q]
 |p::P=>if q<p then q::p::P else p::ins q P
def mem_ins{q x:Nat}:∀{P:List Nat},x∈ins q P↔x=q\/x∈P
 |[]=>by simp[ins]
 |p::P=>by
  unfold ins;split
  ·simp
  ·rw[List.mem_cons,mem_ins,List.mem_cons]
   constructor
   ·rintro(h|h|h)
    ·exact .inr (.inl h)
    ·exact .inl h
    ·exact .inr (.inr h)
   ·rintro(h|h|h)
    ·exact .inr (.inl h)
    ·exact .inl h
    ·exact .inr (.inr h)
def ES{q:Nat}:∀{P:List Nat},(ins q P).length=P.length+1
 |[]=>rfl
 |p::P=>by unfold ins;split<;>simp[ES]
def Ij{q:Nat}:∀{P:List Nat},P.Pairwise (·<·)->q∉P->(ins q P).Pairwise (·<·)
 |[],_,_=>by simp[ins]
 |p::P,h,hn=>by
  rw[Be] at h;unfold ins;split
  ·rename_i hlt
   rw[Be,Be];refine⟨fun x hx=>?_,h⟩;rcases List.mem_cons.mp hx with rfl|hx
   ·exact hlt
   ·exact Nat.lt_trans hlt (h.1 x hx)
  ·rename_i hlt
   rw[Be];refine⟨fun x hx=>?_,Ij h.2 fun z=>hn (.tail _ z)⟩;rcases mem_ins.mp hx with rfl|hx
   ·have:x≠p:=fun z=>hn (z▸.head _)
    (first|lia|omega)
   ·exact h.1 x hx
def a9(f:Nat->Vc):List Nat->Nat->Vc
 |[]=>f
 |p::ps=>put (a9 f ps) p (aY (a9 f ps) ps (f p))
section
variable{f:Nat->Vc}
def Ik:∀{ps:List Nat}{q:Nat},q∉ps->a9 f ps q=f q
 |[],_,_=>rfl
 |p::ps,q,h=>by
  show put (a9 f ps) p _ q=f q;rw[dh (show q≠p from fun z=>h (by rw[z];exact .head _)),Ik fun z=>h (.tail _ z)]
def n7{p q:Nat}{ps:List Nat}(h:q≠p):a9 f (p::ps) q=a9 f ps q:=dh h
def tf{p:Nat}{ps:List Nat}:a9 f (p::ps) p=aY (a9 f ps) ps (f p):=zK
def ET:∀{ps:List Nat},Ech ps f->ps.Pairwise (·<·)->Ech ps (a9 f ps)/\∀p∈ps,a9 f ps p p=f p p
 |[],_,_=>⟨⟨(fun p hp=>nomatch hp),(fun p hp=>nomatch hp)⟩,fun p hp=>nomatch hp⟩
 |p::ps,h,hs=>by
  rw[Be] at hs;obtain⟨e1,e2⟩:=ET (h.sub fun q hq=>.tail _ hq) hs.2;have ne:∀q∈ps,q≠p:=fun q hq=>Ne.symm (Az (hs.1 q hq));have hd:a9 f (p::ps) p p=f p p:=by rw[tf,CM e1 fun q hq=>hs.1 q hq]
  have tl:∀q∈ps,a9 f (p::ps) q q=f q q:=fun q hq=>by rw[n7 (ne q hq)];exact e2 q hq
  refine⟨⟨fun q hq i hi=>?_,fun q hq=>?_⟩,fun q hq=>?_⟩
  ·rcases List.mem_cons.mp hq with rfl|hq
   ·rw[tf,CM e1 fun r hr=>Nat.lt_trans hi (hs.1 r hr)];exact h.z q (.head _) i hi
   ·rw[n7 (ne q hq)];exact e1.z q hq i hi
  ·rcases List.mem_cons.mp hq with rfl|hq
   ·rw[hd];exact h.pos q (.head _)
   ·rw[tl q hq];exact h.pos q (.tail _ hq)
  ·rcases List.mem_cons.mp hq with rfl|hq
   ·exact hd
   ·exact tl q hq
def EU:∀{ps:List Nat},Ech ps f->ps.Pairwise (·<·)->∀p∈ps,∀q∈ps,p<q->0<=a9 f ps p q/\a9 f ps p q<a9 f ps q q
 |p::ps,h,hs,r,hr,q,hq,hlt=>by
  rw[Be] at hs;have h':Ech ps f:=h.sub fun q hq=>.tail _ hq;obtain⟨e1,e2⟩:=ET h' hs.2;have ne:∀q∈ps,q≠p:=fun q hq=>Ne.symm (Az (hs.1 q hq));have a:q∈ps:=by
   rcases List.mem_cons.mp hq with rfl|hq
   ·rcases List.mem_cons.mp hr with rfl|hr
    ·(first|lia|omega)
    ·have:=hs.1 r hr;(first|lia|omega)
   ·exact hq
  rw[n7 (ne q a)];rcases List.mem_cons.mp hr with rfl|hr
  ·rw[tf];exact CN e1 hs.2 q a
  ·rw[n7 (ne r hr)];exact EU h' hs.2 r hr q a hlt
def Il:∀{ps:List Nat}{S:List Vc},ps.Nodup->(∀p∈ps,Sp S (a9 f ps p))->∀p∈ps,Sp S (f p)
 |p::ps,S,nd,h,q,hq=>by
  obtain⟨n1,n2⟩:=List.nodup_cons.mp nd;have ne:∀q∈ps,q≠p:=fun q hq z=>n1 (z▸hq);have a:∀q∈ps,Sp S (a9 f ps q):=fun q hq=>by have:=h q (.tail _ hq);rwa [n7 (ne q hq)] at this
  rcases List.mem_cons.mp hq with rfl|hq
  ·have:=h q (.head _)
   rw[tf] at this;exact(Sp.redu ps a).mpr this
  ·exact Il n2 a q hq
def Im:∀{ps:List Nat}{S:List Vc},ps.Nodup->(∀p∈ps,Sp S (f p))->∀p∈ps,Sp S (a9 f ps p)
 |p::ps,S,nd,h,q,hq=>by
  obtain⟨n1,n2⟩:=List.nodup_cons.mp nd;have a:=Im (S:=S) n2 fun q hq=>h q (.tail _ hq);rcases List.mem_cons.mp hq with rfl|hq
  ·rw[tf];exact(Sp.redu ps a).mp (h q (.head _))
  ·rw[n7 (show q≠p from fun z=>n1 (z▸hq))];exact a q hq
end
structure FS(N M X B:Nat)(R:List Vc)(P:List Nat)(f:Nat->Vc):Prop where
 ech:Ech P f
 srt:P.Pairwise (·<·)
 len:P.length=R.length
 few:R.length<=N
 fr:∀p∈P,Rep R (cC N X B) (f p)
 gen:∀r∈R,Sp (P.map f) r
 red:∀p∈P,∀q∈P,p<q->0<=f p q/\f p q<f q q
 piv:∀p∈P,(f p p).natAbs<=B
def FS.start{N M X B:Nat}{f:Nat->Vc}:FS N M X B [] [] f:=
 ⟨⟨(fun p hp=>nomatch hp),(fun p hp=>nomatch hp)⟩,.nil,rfl,AB _,(fun p hp=>nomatch hp),(fun p hp=>nomatch hp),(fun p hp=>nomatch hp),(fun p hp=>nomatch hp)⟩
def FS.fv{N M X B:Nat}{R:List Vc}{P:List Nat}{f:Nat->Vc}(F:FS N M X B R P f):∀p∈P,∀q∈P,(f p q).natAbs<=B:=fun p hp q hq=>by
 rcases Nat.lt_trichotomy p q with h|h|h
 ·have:=F.red p hp q hq h;have:=F.piv q hq;(first|lia|omega)
 ·subst h;exact F.piv p hp
 ·rw[F.ech.z p hp q h];exact AB _
def FS.take{N M X B:Nat}{R:List Vc}{P:List Nat}{f:Nat->Vc}{r:Vc}(l:1<=B)(F:FS N M X B R P f)(b:R.length<N)(hr:∀p∈P,(r p).natAbs<=M):TS N M X B (R++[r]) P f (aY f P r) 0:=by
 have a:P.length<=N:=by have:=F.len;(first|lia|omega)
 have c:(P.filter fun p=>decide (p<0)).length=0:=by rw[List.filter_eq_nil_iff.mpr];rfl;intro p _;simp
 obtain⟨e,o⟩:=k7 (R:=R++[r]) (fun p hp=>(F.fr p hp).more) F.fv F.ech.pos P (fun q hq=>hq) (Rep.mem (AE R (List.mem_singleton.mpr rfl))) hr;have g:1+P.length*(M*(1+B) ^ P.length*cC N X B)<=cK N M X B:=by
  unfold cK;have h1:(1+B) ^ P.length<=(1+B) ^ N:=AA ω a;have:=AL a (Al (cC N X B) (Ak M h1));(first|lia|omega)
 have j:cC N X B<=cK N M X B:=by unfold cK;(first|lia|omega)
 refine⟨F.ech,F.srt,by rw[AJ,F.len];rfl,by rw[AJ];exact b,fun p hp=>?_,?_,fun s d=>?_,(fun i hi=>absurd hi (Nat.not_lt_zero _)),fun p hp=>CN F.ech F.srt p hp,F.piv,fun p hp q hq=>?_,fun p hp _ q hq=>F.fv p hp q hq⟩
 ·rw[c,Nat.pow_zero,Nat.mul_one];exact(F.fr p hp).more.mono j
 ·rw[c,Nat.pow_zero,Nat.mul_one];exact e.mono g
 ·rcases List.mem_append.mp d with h|h
  ·exact(F.gen s h).more _ fun x hx=>A6 _ hx
  ·rw[List.mem_singleton.mp h]
   exact(Sp.redu P fun q hq=>Sp.mem (A6 _ (List.mem_map.mpr ⟨q,hq,rfl⟩))).mpr (Sp.mem (AE _ (List.mem_singleton.mpr rfl)))
 ·refine Ag (F.fv p hp q hq) ?_
  rw[AN];have:B*1<=B*B:=Ak _ l;(first|lia|omega)
def cM(N M X B:Nat):Nat:=cK N M X B*cG N B ^ N
def cE(N M X B:Nat):Nat:=cM N M X B+N*(N*(cM N M X B*M)*(1+B) ^ N*cC N X B)
def up(l:Vc)(q:Nat):Vc:=if 0<l q then l else fun u=>-l u
def Rep.neg{R:List Vc}{C:Nat}{v:Vc}(h:Rep R C v):Rep R C fun u=>-v u:=
 ((h.lin h (k:=-1) (m:=0) (A:=1) (B:=0) ξ ξ).mono ω).eq fun u=>ω
def Sp.neg{R:List Vc}{v:Vc}(h:Sp R v):Sp R fun u=>-v u:=(h.lin h (-1) 0).eq fun u=>ω
structure Bd(N M X B:Nat)(R:List Vc):Prop where
 ind:i' R
 bd:∀(P:List Nat)(f:Nat->Vc),Ech P f->P.Pairwise (·<·)->(∀r∈R,Sp (P.map f) r)->(∀p∈P,Sp R (f p))->P.length=R.length->(∀p∈P,(f p p).natAbs<=B)/\(∀r∈R,∀p∈P,(r p).natAbs<=M)/\∀(c:List Int)(V:Nat),c.length=R.length->(∀p∈P,(cmb c R p).natAbs<=V)->∀x∈c,x.natAbs<=N*(V*X)
structure QS(N M X B:Nat)(R:List Vc)(P:List Nat)(f:Nat->Vc):Prop where
 ech:Ech P f
 srt:P.Pairwise (·<·)
 len:P.length=R.length
 few:R.length<=N
 fr:∀p∈P,Rep R (cM N M X B) (f p)
 gen:∀r∈R,Sp (P.map f) r
section
variable{N M X B:Nat}{R:List Vc}{P:List Nat}{f:Nat->Vc}
def TS.cnt{l:Vc}{t:Nat}(T:TS N M X B R P f l t)(a:1<=B):cK N M X B*cG N B ^ (P.filter fun p=>decide (p<t)).length<=cM N M X B:=
 Ak _ (AA (CS a) (Ag (List.length_filter_le _ _) (by have:=T.len;have:=T.few;(first|lia|omega))))
def TS.full{l:Vc}{t q:Nat}(e:1<=B)(T:TS N M X B R P f l t)(hq:q∉P)(a:∀i,i<q->l i=0)(g:l q≠0):QS N M X B R (ins q P) (put f q (up l q)):=by
 have ne:∀p∈P,p≠q:=fun p hp z=>hq (z▸hp);have hc:=T.cnt e;have up1:0<up l q q:=by
  unfold up;split
  ·assumption
  ·show 0 < -l q
   (first|lia|omega)
 have b:∀i,i<q->up l q i=0:=fun i hi=>by
  have:=a i hi;unfold up;split
  ·exact this
  ·show -l i=0
   (first|lia|omega)
 have c:Rep R (cM N M X B) (up l q):=by
  unfold up;split
  ·exact T.lr.mono hc
  ·exact(T.lr.mono hc).neg
 refine⟨⟨fun p hp i hi=>?_,fun p hp=>?_⟩,Ij T.srt hq,by rw[ES,T.len],T.few,fun p hp=>?_,fun r hr=>(T.gen r hr).trans fun s d=>?_⟩
 ·rcases mem_ins.mp hp with rfl|hp
  ·rw[zK];exact b i hi
  ·rw[dh (ne p hp)];exact T.ech.z p hp i hi
 ·rcases mem_ins.mp hp with rfl|hp
  ·rw[zK];exact up1
  ·rw[dh (ne p hp)];exact T.ech.pos p hp
 ·rcases mem_ins.mp hp with rfl|hp
  ·rw[zK];exact c
  ·rw[dh (ne p hp)];exact(T.fr p hp).mono hc
 ·rcases List.mem_append.mp d with h|h
  ·obtain⟨p,hp,rfl⟩:=List.mem_map.mp h
   exact Sp.mem (List.mem_map.mpr ⟨p,mem_ins.mpr (.inr hp),dh (ne p hp)⟩)
  ·rw[List.mem_singleton.mp h]
   have:Sp ((ins q P).map (put f q (up l q))) (up l q):=Sp.mem (List.mem_map.mpr ⟨q,mem_ins.mpr (.inl rfl),zK⟩);unfold up at this ⊢;split at this
   ·rename_i h;rw[if_pos h];exact this
   ·rename_i h;rw[if_neg h];exact this.neg.eq fun u=>by show l u=-(-l u);(first|lia|omega)
def QS.bd(D:Bd N M X B R)(S:QS N M X B R P f):(∀p∈P,(f p p).natAbs<=B)/\(∀r∈R,∀p∈P,(r p).natAbs<=M)/\∀(c:List Int)(V:Nat),c.length=R.length->(∀p∈P,(cmb c R p).natAbs<=V)->∀x∈c,x.natAbs<=N*(V*X):=
 D.bd P f S.ech S.srt S.gen (fun p hp=>(S.fr p hp).sp) S.len
def QS.tail(j:1<=B)(D:Bd N M X B R)(S:QS N M X B R P f){pre ps:List Nat}(e:P=pre++ps):Ech ps (a9 f ps)/\(∀p∈ps,∀q∈P,(a9 f ps p q).natAbs<=B)/\∀p∈ps,Rep R (cC N X B) (a9 f ps p):=by
 have g:∀p∈ps,p∈P:=fun p hp=>by rw[e];exact AE _ hp
 have a:=S.srt;rw[e,List.pairwise_append] at a;have h':Ech ps f:=S.ech.sub g;obtain⟨e1,e2⟩:=ET h' a.2.1;obtain⟨pv,hb,i⟩:=S.bd D;have bd:∀p∈ps,∀q∈P,(a9 f ps p q).natAbs<=B:=fun p hp q hq=>by
  rcases Nat.lt_trichotomy p q with h|h|h
  ·have b:q∈ps:=by
    rw[e] at hq;rcases List.mem_append.mp hq with z|z
    ·have:=a.2.2 q z p hp;(first|lia|omega)
    ·exact z
   have h1:=EU h' a.2.1 p hp q b h;rw[e2 q b] at h1;have:=pv q hq;(first|lia|omega)
  ·subst h;rw[e2 p hp];exact pv p hq
  ·rw[e1.z p hp q h];exact AB _
 refine⟨e1,bd,fun p hp=>?_⟩;have sp:Sp R (a9 f ps p):=Im (a.2.1.imp fun h=>Az h) (fun q hq=>(S.fr q (g q hq)).sp) p hp;obtain⟨c,d,e⟩:=sp;exact⟨c,d,e,i c B d fun q hq=>by rw[<-e];exact bd p hp q hq⟩
def QS.met(o:1<=B)(D:Bd N M X B R)(S:QS N M X B R P f){pre ps:List Nat}{p:Nat}(e:P=pre++p::ps)(i:Nat):Rep R (cE N M X B) (aY (a9 f ps) (ps.take i) (f p)):=by
 have d:P=(pre++[p])++ps:=by rw[e];simp
 obtain⟨e1,bd,l⟩:=S.tail o D d;obtain⟨_,hb,_⟩:=S.bd D;have hp:p∈P:=by rw[e];simp
 have V:∀q∈ps,(f p q).natAbs<=N*(cM N M X B*M):=fun q hq=>by
  have g:q∈P:=by rw[d];exact AE _ hq
  exact Ag ((S.fr p hp).le fun r hr=>hb r hr q g) (Al _ S.few)
 have c:(ps.take i).length<=N:=by
  have h1:=congrArg List.length d;rw[AJ,S.len] at h1;have:=S.few;rw[List.length_take];(first|lia|omega)
 obtain⟨r,_⟩:=k7 (P:=ps) l (fun a h b j=>bd a h b (by rw[d];exact AE _ j)) e1.pos (ps.take i) (fun q hq=>List.mem_of_mem_take hq) (S.fr p hp) V;refine r.mono ?_;unfold cE;have h1:(1+B) ^ (ps.take i).length<=(1+B) ^ N:=AA ω c;exact Nat.add_le_add_left (AL c (Al _ (Ak _ h1))) _
def QS.done(d:1<=B)(D:Bd N M X B R)(S:QS N M X B R P f):FS N M X B R P (a9 f P):=by
 obtain⟨e1,bd,b⟩:=S.tail d D (pre:=[]) (ps:=P) rfl;have c:P.Nodup:=S.srt.imp fun h=>Az h;refine⟨e1,S.srt,S.len,S.few,b,fun r hr=>(S.gen r hr).trans fun s a=>?_,EU S.ech S.srt,fun p hp=>bd p hp p hp⟩;obtain⟨p,hp,rfl⟩:=List.mem_map.mp a;exact Il c (fun q hq=>Sp.mem (List.mem_map.mpr ⟨q,hq,rfl⟩)) p hp
end
end Tb
end
section
namespace K22
open PySem L2
def vc(l:List Int):Tb.Vc:=fun i=>l.getD i 0
def vF(fr:Nat->List Int):Nat->Tb.Vc:=fun p=>vc (fr p)
def CT{f:Int->Int->Int}(a:f 0 0=0){l on:List Int}(h:l.length=on.length):vc (AH f l on)=fun u=>f (vc l u) (vc on u):=by
 funext u
 unfold vc;rw[Ab,Ab,Ab,List.getElem?_zipWith];rcases Bh u l.length with c|c
 ·rw[Ac c,Ac (h▸c)];rfl
 ·rw[List.getElem?_eq_none c,List.getElem?_eq_none (h▸c)];exact a.symm
def Io{fr:Nat->List Int}{l:List Int}{p:Nat}(h:l.length=(fr p).length):vc (cB fr l p)=Tb.step (vF fr) p (vc l):=by
 unfold cB cV;rw[CT (by simp) h]
 rfl
def oa{fr:Nat->List Int}{W:Nat}:∀{ps:List Nat}{rn:List Int},rn.length=W->(∀p∈ps,(fr p).length=W)->vc (aN fr rn ps)=Tb.aY (vF fr) ps (vc rn)
 |[],_,_,_=>rfl
 |p::ps,rn,h,h2=>by
  have hp:=h2 p (At ..);show vc (aN fr (cB fr rn p) ps)=Tb.aY (vF fr) ps (Tb.step (vF fr) p (vc rn));rw[oa (ps:=ps) (EO h hp) fun q hq=>h2 q (Ay _ hq),Io ω]
def Ip{a b:Int}{l on:List Int}(h:l.length=on.length):vc (ba a l b on)=Tb.mix a (vc l) b (vc on):=by
 unfold ba;rw[CT (by simp) h]
 rfl
def NW{l:List Int}:vc (l.map fun x=>-x)=fun u=>-vc l u:=by
 funext u
 unfold vc;rw[Ab,Ab,Aj];cases l[u]?<;>simp
def bH(fr:Nat->List Int)(p:Nat)(l:List Int):Nat->List Int:=fun q=>if q=p then l else fr q
def EV{fr:Nat->List Int}{p:Nat}{l:List Int}:vF (bH fr p l)=Tb.put (vF fr) p (vc l):=by
 funext q
 unfold vF bH Tb.put;split<;>rfl
def CU{l:List Int}{x:Int}(h:x∈l):∃i,i<l.length/\vc l i=x:=by
 obtain⟨i,hi,e⟩:=List.mem_iff_getElem.mp h;exact⟨i,hi,by unfold vc;rw[Ab,Ac hi];exact e⟩
def f_{l:List Int}{i:Nat}(h:l.length<=i):vc l i=0:=by unfold vc;rw[Ab,List.getElem?_eq_none h];rfl
def Iq{l:List Int}(h:∃u,vc l u≠0):∃k,k<l.length/\(∀i,i<k->l[i]?=some 0)/\(∃x,l[k]?=some x/\x≠0)/\(∀i,i<k->vc l i=0)/\vc l k≠0:=by
 classical
 induction l with
 |nil=>obtain⟨u,hu⟩:=h;exact absurd (f_ (AB u)) hu
 |cons x l ih=>
  by_cases c:x=0
  ·obtain⟨u,hu⟩:=h
   cases u with
   |zero=>exact absurd (show vc (x::l) 0=0 from c) hu
   |succ u=>
    obtain⟨k,h1,h2,⟨y,a,b⟩,d,e⟩:=ih ⟨u,by simpa[vc] using hu⟩;refine⟨k+1,by simpa using h1,fun i hi=>?_,⟨y,by simpa using a,b⟩,fun i hi=>?_,by simpa[vc] using e⟩
    ·cases i with
     |zero=>simp[c]
     |succ i=>simpa using h2 i ω
    ·cases i with
     |zero=>exact c
     |succ i=>simpa[vc] using d i ω
  ·exact⟨0,by simp,fun i hi=>ω,⟨x,rfl,c⟩,fun i hi=>ω,c⟩
def Ir:∃n:Nat,n=67108864:=⟨_,rfl⟩
noncomputable def bt:Nat:=Classical.choose Ir
def la:bt=67108864:=Classical.choose_spec Ir
noncomputable def big:Nat:=2 ^ bt
def CV{i j:Int}(h1:i.natAbs<big)(h2:j.natAbs<big):ey i j:=⟨bt,bt,h1,h2,by have:=la;(first|lia|omega)⟩
def Is{a b:Int}:(a / b).natAbs<=a.natAbs:=Int.natAbs_ediv_le_natAbs _ _
structure Wid(W:Nat)(P:List Nat)(fr:Nat->List Int):Prop where
 most:W<=1000
 row:∀p∈P,p<W/\(fr p).length=W
def Wid.sub{W:Nat}{P Q:List Nat}{fr:Nat->List Int}(h:Wid W P fr)(a:∀p∈Q,p∈P):Wid W Q fr:=⟨h.most,fun p hp=>h.row p (a p hp)⟩
def Wid.put{W:Nat}{P:List Nat}{fr:Nat->List Int}{p:Nat}{l:List Int}(h:Wid W P fr)(a:l.length=W):Wid W P (bH fr p l):=⟨h.most,fun q hq=>⟨(h.row q hq).1,by unfold bH;split;exact a;exact(h.row q hq).2⟩⟩
def NX{R:List Tb.Vc}{P ps:List Nat}{fr:Nat->List Int}{W C CF V VF N Y:Nat}{rn:List Int}(l:∀r∈R,∀u,(r u).natAbs<=Y)(d:R.length<=N)(o:∀p∈P,Tb.Rep R CF (vF fr p))(w:∀p∈P,∀q∈P,(vF fr p q).natAbs<=VF)(a:∀p∈P,0<vF fr p p)(g:∀p∈P,(vF fr p p).natAbs<2 ^ 9000)(f:Wid W P fr)(hn:rn.length=W)(hr:Tb.Rep R C (vc rn))(y:∀q∈P,(vc rn q).natAbs<=V)(c:∀p∈ps,p∈P)(l1:N*((C+ps.length*(V*(1+VF) ^ ps.length*CF))*Y)<big)(l2:N*(CF*Y)<big):j7 fr W rn ps:=by
 refine⟨hn,f.most,fun p hp=>⟨(f.row p (c p hp)).1,(f.row p (c p hp)).2,a p (c p hp),g p (c p hp)⟩,fun i p hp x hx=>?_⟩;have s:=Am hp;have v:=c p s;refine CV (Ax Is ?_) ?_
 ·obtain⟨h,_⟩:=Tb.k7 o w a (ps.take i) (fun q hq=>c q (List.mem_of_mem_take hq)) hr y
  have e:=oa (fr:=fr) (W:=W) (ps:=ps.take i) (rn:=rn) hn fun q hq=>(f.row q (c q (List.mem_of_mem_take hq))).2;rw[<-e] at h;have b:=h.le (u:=p) fun r hr=>l r hr p;refine Ax (Ag b (AL d (Al _ ?_))) l1;have j:(ps.take i).length<=ps.length:=by rw[List.length_take];(first|lia|omega)
  refine Nat.add_le_add_left (AL j (Al _ (Ak _ (AA ω j)))) _
 ·obtain⟨u,_,rfl⟩:=CU hx
  exact Ax (Ag ((o p v).le (u:=u) fun r hr=>l r hr u) (Al _ d)) l2
def b5(es:List (Nat×Addr))(p:Nat)(d:Addr):List (Nat×Addr):=if p∈es.map (·.1) then es.map fun e=>if e.1=p then(p,d) else e else es++[(p,d)]
def CW{es:List (Nat×Addr)}{p:Nat}{d:Addr}:(b5 es p d).map (·.1)=if p∈es.map (·.1) then es.map (·.1) else es.map (·.1)++[p]:=by
 unfold b5;split
 ·rw[AV]
  refine Ba fun e _=>?_;simp only[Function.comp];split<;>simp_all
 ·simp
def putE_mem{es:List (Nat×Addr)}{p:Nat}{d:Addr}{e:Nat×Addr}(h:e∈b5 es p d):e=(p,d)\/(e∈es/\e.1≠p):=by
 unfold b5 at h;split at h
 ·obtain⟨x,hx,rfl⟩:=List.mem_map.mp h
  split
  ·exact .inl rfl
  ·exact .inr ⟨hx,by assumption⟩
 ·rename_i hp
  rcases List.mem_append.mp h with h|h
  ·exact .inr ⟨h,fun z=>hp (z▸List.mem_map.mpr ⟨e,h,rfl⟩)⟩
  ·exact .inl (by simpa using h)
def NY{es:List (Nat×Addr)}{p:Nat}{d:Addr}:putK ((d0 es).map fun p=>((Sum.inl p.1:Key),p.2)) (Sum.inl (p:Int)) (.ref d)=(d0 (b5 es p d)).map fun p=>((Sum.inl p.1:Key),p.2):=by
 have b:∀e:Nat×Addr,((Sum.inl (e.1:Int):Key)=Sum.inl (p:Int))↔e.1=p:=by
  intro e;constructor
  ·intro z
   have:((e.1:Int))=p:=by injection z
   (first|lia|omega)
  ·intro z;rw[z]
 have e1:(((d0 es).map fun p=>((Sum.inl p.1:Key),p.2)).any fun f=>decide (f.1=Sum.inl (p:Int)))=decide (p∈es.map (·.1)):=by
  rw[Bool.eq_iff_iff,List.any_eq_true,decide_eq_true_iff,List.mem_map];constructor
  ·rintro⟨x,hx,hk⟩
   rw[AV] at hx;obtain⟨e,a,rfl⟩:=List.mem_map.mp hx;exact⟨e,a,(b e).mp (of_decide_eq_true hk)⟩
  ·rintro⟨e,a,rfl⟩
   refine⟨(Sum.inl (e.1:Int),V.ref e.2),?_,by simp⟩;rw[AV];exact List.mem_map.mpr ⟨e,a,rfl⟩
 unfold putK b5;rw[e1]
 by_cases c:p∈es.map (·.1)
 ·rw[if_pos (decide_eq_true c),if_pos c]
  unfold d0;rw[AV,AV,AV,AV];refine Ba fun e _=>?_;show(if(Sum.inl (e.1:Int):Key)=Sum.inl (p:Int) then _ else _)=_
  by_cases z:e.1=p
  ·rw[if_pos ((b e).mpr z)]
   simp only[Function.comp,if_pos z];rw[z]
  ·rw[if_neg fun q=>z ((b e).mp q)]
   simp only[Function.comp,if_neg z]
 ·rw[if_neg (by simpa using c),if_neg c]
  simp[d0]
def Fnd.put{H H2:Hp}{a d:Addr}{es:List (Nat×Addr)}{fr:Nat->List Int}{p:Nat}{l:List Int}(h:Fnd H a es fr)(hd:H d=some (.lst (l.map V.int)))(g:es.length<1000):∃H2,DPut H a (.int p) (.ref d) H2/\Fnd H2 a (b5 es p d) (bH fr p l)/\∀b,b≠a->H2 b=H b:=by
 have hp:=DPut.k (k:=Sum.inl (p:Int)) (v:=V.ref d) h.at_ (by rw[sizeLine_eq];simp;(first|lia|omega));refine⟨_,hp,⟨?_,?_,?_⟩,fun b hb=>ao hb⟩
 ·rw[za,NY]
 ·rw[CW]
  split
  ·exact h.nd
  ·rename_i hn
   rw[List.nodup_append];refine⟨h.nd,by simp,fun x hx y hy=>?_⟩;have:y=p:=by simpa using hy
   subst this;exact fun z=>hn (z▸hx)
 ·intro e c
  have ne:∀b,(∃xs,H b=some (.lst xs))->b≠a:=fun b ⟨xs,hb⟩ z=>by rw[z,h.at_] at hb;cases hb
  rcases putE_mem c with rfl|⟨c,f⟩
  ·rw[ao (ne d ⟨_,hd⟩),hd];unfold bH;rw[if_pos rfl]
  ·rw[ao (ne e.2 ⟨_,h.rows e c⟩),h.rows e c];unfold bH;rw[if_neg f]
end K22
end
section
namespace Tb
def sX(N M:Nat):Nat:=(2*N*M) ^ N
def sB(N M:Nat):Nat:=N*(sX N M*M)
def Iu{N M j:Nat}(a:1<=N)(b:1<=M)(c:j<=N):(2*j*M) ^ (j-1)<=sX N M:=by
 have h1:2*j*M<=2*N*M:=Al _ (Ak _ c);exact Ag (Nat.pow_le_pow_left h1 _) (AA (nY (nY ξ a) b) ω)
def NZ{N M:Nat}{R:List Vc}(i:1<=N)(b:1<=M)(hi:i' R)(a:R.length<=N)(hb:∀r∈R,∀u,(r u).natAbs<=M):Bd N M (sX N M) (sB N M) R:=by
 refine⟨hi,fun P f h d e l g=>⟨fun p hp=>?_,fun r hr p _=>hb r hr p,fun c V hc j x hx=>?_⟩⟩
 ·refine Ag (NI b hi h d e g (fun r hr p _=>hb r hr p) hp) ?_
  exact AL a (Al _ (Iu i b a))
 ·refine Ag (sG b (fun r hr p _=>hb r hr p) g (d.imp fun h=>Az h) (CO hi h d e) hc j x hx) ?_
  exact AL a (Ak _ (Iu i b a))
def shr(f:Nat->Vc):List Nat->Vc->List Int
 |[],_=>[]
 |p::ps,l=>l p / f p p::shr f ps (step f p l)
section
variable{f:Nat->Vc}
def EW:∀(ps:List Nat)(l:Vc),(shr f ps l).length=ps.length
 |[],_=>rfl
 |p::ps,l=>by show(shr f ps (step f p l)).length+1=ps.length+1;rw[EW ps]
def EY:∀{ps:List Nat}{l:Vc},Ech ps f->ps.Pairwise (·<·)->Sp (ps.map f) l->∀u,l u=cmb (shr f ps l) (ps.map f) u
 |[],l,_,_,⟨c,hc,e⟩,u=>by rw[e];cases c with|nil=>rfl|cons _ _=>simp at hc
 |p::ps,l,h,hs,⟨c,hc,e⟩,u=>by
  cases c with
  |nil=>simp at hc
  |cons a c=>
   rw[Be] at hs;have h':Ech ps f:=h.sub fun q hq=>.tail _ hq;have hp:=h.pos p (.head _);have ep:l p=a*f p p:=by
    rw[e];show a*f p p+cmb c (ps.map f) p=a*f p p;rw[zJ c (ps.map f) fun v b=>by
     obtain⟨r,hr,rfl⟩:=List.mem_map.mp b;exact h.z r (.tail _ hr) p (hs.1 r hr)]
    (first|lia|omega)
   have d:l p / f p p=a:=by rw[ep];exact Int.mul_ediv_cancel a ω
   have sp:Sp (ps.map f) (step f p l):=⟨c,by simpa using hc,fun u=>by
    unfold step;rw[d,e];show a*f p u+cmb c (ps.map f) u-a*f p u=_;(first|lia|omega)⟩
   have g:=EY h' hs.2 sp u;show l u=l p / f p p*f p u+cmb (shr f ps (step f p l)) (ps.map f) u;rw[<-g];unfold step;(first|lia|omega)
def N2{P:List Nat}{VF:Nat}(c:∀p∈P,∀q∈P,(f p q).natAbs<=VF)(a:∀p∈P,0<f p p):∀(ps:List Nat){l:Vc}{V:Nat},(∀p∈ps,p∈P)->(∀q∈P,(l q).natAbs<=V)->∀x∈shr f ps l,x.natAbs<=V*(1+VF) ^ ps.length
 |[],_,_,_,_,x,hx=>nomatch hx
 |p::ps,l,V,hs,hv,x,hx=>by
  have hp:=hs p (.head _);have b:(l p / f p p).natAbs<=V:=Ag (Int.natAbs_ediv_le_natAbs (l p) (f p p)) (hv p hp);rcases List.mem_cons.mp hx with rfl|hx
  ·refine Ag b (Nat.le_mul_of_pos_right _ (Nat.pow_pos ω))
  ·have d:∀q∈P,(step f p l q).natAbs<=V*(1+VF):=fun q hq=>by
    have e:=hv q hq;have g:(l p / f p p*f p q).natAbs<=V*VF:=by rw[AD];exact AL b (c p hp q hq)
    have h:(step f p l q).natAbs<=(l q).natAbs+(l p / f p p*f p q).natAbs:=by unfold step;(first|lia|omega)
    rw[Nat.mul_add,Nat.mul_one];(first|lia|omega)
   have:=N2 c a ps (fun q hq=>hs q (.tail _ hq)) d x hx
   rwa [AN,Nat.mul_comm (1+VF),<-Nat.pow_succ] at this
end
def dl(s t:Nat):Int:=if s=t then 1 else 0
structure Dual(k:Nat)(U Bc:List Vc):Prop where
 lu:U.length=k
 lb:Bc.length=k
 d:∀s t,s<k->t<k->cmb (Bc.map fun b=>b s) U t=dl s t
def Iv{t:Nat}:∀(c:List Int)(A B:List Vc),A.length=B.length->(∀(i:Nat) a b,A[i]?=some a->B[i]?=some b->a t=b t)->cmb c A t=cmb c B t
 |[],[],[],_,_=>rfl
 |[],_::_,_::_,_,_=>rfl
 |_::_,[],[],_,_=>rfl
 |x::c,a::A,b::B,hl,h=>by
  show x*a t+cmb c A t=x*b t+cmb c B t;rw[h 0 a b rfl rfl,Iv c A B (by simpa using hl) fun i a b h1 h2=>h (i+1) a b (by simpa using h1) (by simpa using h2)]
 |[],[],_::_,hl,_=>by simp at hl
 |[],_::_,[],hl,_=>by simp at hl
 |_::_,[],_::_,hl,_=>by simp at hl
 |_::_,_::_,[],hl,_=>by simp at hl
def range_getD(row:List Int):(Ah row.length).map (fun j=>row.getD j 0)=row:=by
 apply AX
 ·simp
 ·intro i h1 h2;simp at h1;simp[h2]
def Iw{U:List Vc}{k s t:Nat}(hk:U.length=k):∀(sh:Ξ)(Bc:List Vc),(∀row∈sh,row.length=k)->
  cmb ((Ah k).map fun j=>cmb (sh.map fun row=>row.getD j 0) Bc s) U t=cmb (Bc.map fun b=>b s) (sh.map fun row=>cmb row U) t
 |[],Bc,_=>by
  have e:((Ah k).map fun j=>cmb (([]:Ξ).map fun row=>row.getD j 0) Bc s)=(Ah k).map fun _=>0:=Ba fun j _=>by cases Bc<;>rfl
  rw[e,k8 _ _ _ (fun x hx=>by obtain⟨_,_,rfl⟩:=List.mem_map.mp hx;rfl)];cases Bc<;>rfl
 |row::sh,[],h=>by
  have e:((Ah k).map fun j=>cmb ((row::sh).map fun row=>row.getD j 0) [] s)=(Ah k).map fun _=>0:=Ba fun j _=>rfl;rw[e,k8 _ _ _ (fun x hx=>by obtain⟨_,_,rfl⟩:=List.mem_map.mp hx;rfl)]
  rfl
 |row::sh,b::Bc,h=>by
  have a:=Iw (s:=s) (t:=t) hk sh Bc fun r hr=>h r (.tail _ hr);have hr:=h row (.head _);have e:((Ah k).map fun j=>cmb ((row::sh).map fun row=>row.getD j 0) (b::Bc) s)=AH (fun x y=>b s*x+1*y) row ((Ah k).map fun j=>cmb (sh.map fun row=>row.getD j 0) Bc s):=by
   apply AX
   ·rw[AF,Aa,Aa,A9,hr,Nat.min_self]
   ·intro i h1 h2
    rw[Aa,A9] at h1;rw[A7,AW,AW,AZ];show row.getD i 0*b s+cmb (sh.map fun row=>row.getD i 0) Bc s=_;rw[Ab,Ac ω,Bj];show b s*row[i]+_=_;(first|lia|omega)
  rw[e,gO _ _ _ _ U ω (by rw[Aa,A9,hk]),a];show _=b s*cmb row U t+cmb (Bc.map fun b=>b s) (sh.map fun row=>cmb row U) t;(first|lia|omega)
def Dual.next{k:Nat}{U Bc V:List Vc}{sh:Ξ}(D:Dual k U Bc)(e:V.length=k)(ls:sh.length=k)(g:∀row∈sh,row.length=k)(hu:∀(i:Nat) u row t,U[i]?=some u->sh[i]?=some row->t<k->u t=cmb row V t):Dual k V ((Ah k).map fun j=>fun s=>cmb (sh.map fun row=>row.getD j 0) Bc s):=by
 refine⟨e,by simp,fun s t f c=>?_⟩;rw[AV];show cmb ((Ah k).map fun j=>cmb (sh.map fun row=>row.getD j 0) Bc s) V t=dl s t;rw[Iw e sh Bc g,<-D.d s t f c];refine Iv _ _ _ (by rw[Aa,ls,D.lu]) fun i a b h1 h2=>?_;rw[Aj] at h1;obtain⟨row,hr,rfl⟩:=Option.map_eq_some_iff.mp h1;exact(hu i b row t h2 hr c).symm
def dot:Nat->Vc->Vc->Int
 |0,_,_=>0
 |k+1,a,b=>dot k a b+a k*b k
def EZ{k:Nat}{a a' b:Vc}{x y:Int}:dot k (fun u=>x*a u+y*a' u) b=x*dot k a b+y*dot k a' b:=by
 induction k with
 |zero=>show(0:Int)=x*0+y*0;(first|lia|omega)
 |succ k ih=>
  show dot k _ b+(x*a k+y*a' k)*b k=x*(dot k a b+a k*b k)+y*(dot k a' b+a' k*b k);rw[ih,Int.add_mul,Int.mul_add,Int.mul_add,AR,AR];(first|lia|omega)
def oj{k:Nat}{a b:Vc}(h:∀t,t<k->a t=0):dot k a b=0:=by
 induction k with
 |zero=>rfl
 |succ k ih=>show dot k a b+a k*b k=0;rw[ih fun t c=>h t ω,h k ω];(first|lia|omega)
def zE{k:Nat}{a a' b:Vc}(h:∀t,t<k->a t=a' t):dot k a b=dot k a' b:=by
 induction k with
 |zero=>rfl
 |succ k ih=>show dot k a b+a k*b k=dot k a' b+a' k*b k;rw[ih fun t c=>h t ω,h k ω]
def Ix{k:Nat}{b:Vc}:∀(c:List Int)(L:List Vc),dot k (cmb c L) b=cmb c (L.map fun l=>fun _=>dot k l b) 0
 |[],[]=>oj fun _ _=>rfl
 |[],_::_=>oj fun _ _=>rfl
 |_::_,[]=>oj fun _ _=>rfl
 |x::c,l::L=>by
  show dot k (fun u=>x*l u+cmb c L u) b=x*dot k l b+cmb c (L.map fun l=>fun _=>dot k l b) 0;rw[<-Ix c L];have:=EZ (k:=k) (a:=l) (a':=cmb c L) (b:=b) (x:=x) (y:=1);rw[Int.one_mul] at this;rw[<-this];exact zE fun t _=>ω
def Iy{U:List Vc}{t:Nat}:∀(k:Nat)(x:Vc)(Bc:List Vc),Bc.length=U.length->cmb (Bc.map fun b=>dot k x b) U t=dot k x (fun s=>cmb (Bc.map fun b=>b s) U t)
 |0,x,Bc,_=>k8 _ _ _ fun y hy=>by obtain⟨_,_,rfl⟩:=List.mem_map.mp hy;rfl
 |k+1,x,Bc,hl=>by
  show cmb (Bc.map fun b=>dot k x b+x k*b k) U t=dot k x (fun s=>cmb (Bc.map fun b=>b s) U t)+x k*cmb (Bc.map fun b=>b k) U t;rw[<-Iy k x Bc hl];have:=gO 1 (x k) (Bc.map fun b=>dot k x b) (Bc.map fun b=>b k) U (by rw[Aa,hl]) (by rw[Aa,hl]) t;rw[Int.one_mul] at this;rw[<-this]
  congr 1
  apply AX
  ·simp
  ·intro i h1 h2;simp
def E1{k:Nat}{x:Vc}{t:Nat}(b:t<k):dot k x (fun s=>dl s t)=x t:=by
 induction k with
 |zero=>(first|lia|omega)
 |succ k ih=>
  show dot k x _+x k*dl k t=x t
  by_cases e:t=k
  ·subst e
   have:dot t x (fun s=>dl s t)=0:=by
    have z:∀j,j<=t->dot j x (fun s=>dl s t)=0:=by
     intro j
     induction j with
     |zero=>intro _;rfl
     |succ j ih=>intro a;show dot j x _+x j*dl j t=0;rw[ih ω];unfold dl;rw[if_neg ω];(first|lia|omega)
    exact z t (Ae _)
   rw[this];unfold dl;rw[if_pos rfl];(first|lia|omega)
  ·rw[ih ω];unfold dl;rw[if_neg ω];(first|lia|omega)
def zn{k:Nat}{a b b':Vc}(h:∀t,t<k->b t=b' t):dot k a b=dot k a b':=by
 induction k with
 |zero=>rfl
 |succ k ih=>show dot k a b+a k*b k=dot k a b'+a k*b' k;rw[ih fun t c=>h t ω,h k ω]
structure Both(k:Nat)(U Bc:List Vc):Prop where
 a:Dual k U Bc
 b:∀(i j:Nat) u c,U[i]?=some u->Bc[j]?=some c->dot k u c=dl i j
def N3{k:Nat}{U Bc:List Vc}(D:Dual k U Bc)(hi:∀c:List Int,c.length=k->(∀t,t<k->cmb c U t=0)->∀x∈c,x=0):Both k U Bc:=by
 refine⟨D,fun i j u c hu hc=>?_⟩;have p:i<k:=by rw[<-D.lu];exact(List.getElem?_eq_some_iff.mp hu).1
 have l:j<k:=by rw[<-D.lb];exact(List.getElem?_eq_some_iff.mp hc).1
 have h1:∀t,t<k->cmb (Bc.map fun b=>dot k u b) U t=u t:=fun t f=>by
  rw[Iy k u Bc (by rw[D.lb,D.lu]),zn fun s o=>D.d s t o f];exact E1 f
 have h2:∀t,t<k->cmb ((Ah k).map fun s=>dl i s) U t=u t:=fun t f=>by
  have:∀(n:Nat)(V:List Vc),V.length=n->∀(i:Nat) v,V[i]?=some v->∀t,cmb ((Ah n).map fun s=>dl i s) V t=v t:=by
   intro n
   induction n with
   |zero=>intro V g i v h;rw[AG g] at h;simp at h
   |succ n ih=>
    intro V g i v h t;cases V with
    |nil=>simp at g
    |cons w V=>
     rw[List.range_succ_eq_map,A5,AV];show dl i 0*w t+cmb ((Ah n).map fun s=>dl i (s+1)) V t=v t;cases i with
     |zero=>
      have e:v=w:=by simpa using h.symm
      rw[k8 _ _ _ (fun x hx=>by obtain⟨s,_,rfl⟩:=List.mem_map.mp hx;exact if_neg ω),e];show(1:Int)*w t+0=w t;(first|lia|omega)
     |succ i=>
      have:=ih V (by simpa using g) i v (by simpa using h) t;rw[show(fun s=>dl (i+1) (s+1))=(fun s=>dl i s) from funext fun s=>by unfold dl;simp];rw[this];show(0:Int)*w t+v t=v t;(first|lia|omega)
  exact this k U D.lu i u hu t
 have hz:=hi (AH (fun a b=>a-b) (Bc.map fun b=>dot k u b) ((Ah k).map fun s=>dl i s)) (by rw[AF,Aa,Aa,A9,D.lb,Nat.min_self]) fun t f=>by
  rw[CG _ _ U (by rw[Aa,D.lb,D.lu]) (by rw[Aa,A9,D.lu]),h1 t f,h2 t f];(first|lia|omega)
 have g:j<(AH (fun a b=>a-b) (Bc.map fun b=>dot k u b) ((Ah k).map fun s=>dl i s)).length:=by rw[AF,Aa,Aa,A9,D.lb,Nat.min_self];exact l
 have:=hz _ (AI g);rw[A7,AW,AW,AZ] at this;have e:Bc[j]'(by rw[D.lb];exact l)=c:=(List.getElem?_eq_some_iff.mp hc).2;rw[e] at this;(first|lia|omega)
def Both.free{k w:Nat}{R Bc:List Vc}(D:Both k (R.map fun r=>fun t=>r (w+t)) Bc){c:List Int}(hc:c.length=R.length)(hz:∀t,t<k->cmb c R (w+t)=0):∀x∈c,x=0:=by
 have H:R.length=k:=by have:=D.a.lu;rwa [Aa] at this
 have F:∀(c:List Int)(R:List Vc)(t:Nat),cmb c R (w+t)=cmb c (R.map fun r=>fun t=>r (w+t)) t:=by
  intro c
  induction c with
  |nil=>intro R t;cases R<;>rfl
  |cons a c ih=>intro R t;cases R with
   |nil=>rfl
   |cons r R=>show a*r (w+t)+cmb c R (w+t)=a*r (w+t)+_;rw[ih]
 intro x hx;obtain⟨j,s,rfl⟩:=Bg hx;have o:j<Bc.length:=by rw[D.a.lb];(first|lia|omega)
 have y:dot k (cmb c (R.map fun r=>fun t=>r (w+t))) Bc[j]=0:=oj fun t C=>by rw[<-F];exact hz t C
 rw[Ix] at y;have G:∀(c:List Int)(U:List Vc)(d:Nat),c.length=U.length->(∀(i:Nat) u,U[i]?=some u->dot k u Bc[j]=dl (d+i) j)->∀(s:d<=j)(h:j-d<c.length),cmb c (U.map fun l=>fun _=>dot k l Bc[j]) 0=c[j-d]:=by
  intro c
  induction c with
  |nil=>intro U d _ _ _ h;simp at h
  |cons a c ih=>
   intro U d p q s h;cases U with
   |nil=>simp at p
   |cons u U=>
    show a*dot k u Bc[j]+cmb c (U.map fun l=>fun _=>dot k l Bc[j]) 0=_;have hu:=q 0 u rfl;rw[hu];have A:∀(i:Nat) v,U[i]?=some v->dot k v Bc[j]=dl (d+1+i) j:=fun i v f=>by rw[q (i+1) v (by simpa using f)];congr 1;(first|lia|omega)
    by_cases e:d=j
    ·subst e
     have z:cmb c (U.map fun l=>fun _=>dot k l Bc[d]) 0=0:=zJ _ _ fun v f=>by
      obtain⟨l,E,rfl⟩:=List.mem_map.mp f;obtain⟨i,g,rfl⟩:=Bg E;show dot k U[i] Bc[d]=0;rw[A i _ (Ac g)];unfold dl;rw[if_neg ω]
     rw[z];have:d-d=0:=Nat.sub_self _;simp only[this,List.getElem_cons_zero];unfold dl;rw[if_pos ω];(first|lia|omega)
    ·have:=ih U (d+1) (by simpa using p) A ω (by simp at h;(first|lia|omega))
     rw[this];have e2:j-d=(j-(d+1))+1:=ω
     simp only[e2,List.getElem_cons_succ];unfold dl;rw[if_neg ω];(first|lia|omega)
 have:=G c (R.map fun r=>fun t=>r (w+t)) 0 (by rw[Aa,hc]) (fun i u hu=>by rw[Nat.zero_add];exact D.b i j u Bc[j] hu (Ac o)) (AB _) ω;rw[y] at this;exact this.symm
def allb:List Nat->Ξ
 |[]=>[[]]
 |t::ts=>(allb ts).flatMap fun c=>(Ah t).map fun a:Nat=>(a:Int)::c
def pr:List Nat->Nat
 |[]=>1
 |t::ts=>t*pr ts
def j8:∀b,(allb b).length=pr b
 |[]=>rfl
 |t::b=>by
  have:∀l:Ξ,(l.flatMap fun c=>(Ah t).map fun a:Nat=>(a:Int)::c).length=t*l.length:=by
   intro l
   induction l with
   |nil=>simp
   |cons c l ih=>rw[List.flatMap_cons,AJ,Aa,A9,ih,AO,Nat.mul_add];(first|lia|omega)
  show((allb b).flatMap _).length=_;rw[this,j8 b];rfl
def jh:∀{b:List Nat}{c:List Int},c∈allb b↔c.length=b.length/\∀(i:Nat) x t,c[i]?=some x->b[i]?=some t->0<=x/\x<(t:Int)
 |[],c=>by
  show c∈[[]]↔_;rw[List.mem_singleton];constructor
  ·rintro rfl;exact⟨rfl,fun i x t h=>by simp at h⟩
  ·intro h;exact AG h.1
 |t::b,c=>by
  show c∈(allb b).flatMap (fun c=>(Ah t).map fun a:Nat=>(a:Int)::c)↔_;rw[List.mem_flatMap];constructor
  ·rintro⟨d,hd,h⟩
   obtain⟨a,f,rfl⟩:=List.mem_map.mp h;obtain⟨h1,h2⟩:=jh.mp hd;have:=List.mem_range.mp f;refine⟨by rw[AO,h1,AO],fun i x t' hx e=>?_⟩;cases i with
   |zero=>simp at hx e;(first|lia|omega)
   |succ i=>exact h2 i x t' (by simpa using hx) (by simpa using e)
  ·rintro⟨h1,h2⟩
   cases c with
   |nil=>simp at h1
   |cons a d=>
    have f:=h2 0 a t rfl rfl;refine⟨d,jh.mpr ⟨by simpa using h1,fun i x t' hx e=>h2 (i+1) x t' (by simpa using hx) (by simpa using e)⟩,List.mem_map.mpr ⟨a.toNat,List.mem_range.mpr ω,?_⟩⟩;rw[Int.toNat_of_nonneg f.1]
def ol:∀d,(allb d).Nodup
 |[]=>by simp[allb]
 |t::d=>by
  show((allb d).flatMap fun c=>(Ah t).map fun a:Nat=>(a:Int)::c).Pairwise (·≠·);rw[List.pairwise_flatMap];refine⟨fun c _=>?_,(ol d).imp fun{a b} h x hx y hy e=>?_⟩
  ·rw[List.pairwise_map]
   exact List.nodup_range.imp fun h e=>h (by injection e with e;(first|lia|omega))
  ·obtain⟨i,_,rfl⟩:=List.mem_map.mp hx
   obtain⟨j,_,rfl⟩:=List.mem_map.mp hy;injection e with _ e
   exact h e
def E2{a b:Type}{f:a->b}{l:List a}{m:List b}(c:l.Nodup)(d:∀x∈l,f x∈m)(inj:∀x∈l,∀y∈l,f x=f y->x=y):l.length<=m.length:=by
 rcases Bh m.length l.length with h|h
 ·obtain⟨x,hx,y,hy,ne,e⟩:=ez f l m c d h
  exact absurd (inj x hx y hy e) ne
 ·exact h
def vl(c:List Int):Vc:=fun j=>c.getD j 0
def lst(k:Nat)(x:Vc):List Int:=(Ah k).map x
def Iz{k i:Nat}{x:Vc}(h:i<k):(lst k x)[i]?=some (x i):=by unfold lst;rw[Aj,AQ h];rfl
def iw{k:Nat}{x:Vc}:(lst k x).length=k:=by unfold lst;simp
def N4{k:Nat}{x y:Vc}:lst k x=lst k y↔∀j,j<k->x j=y j:=by
 constructor
 ·intro h j a
  have:=congrArg (·[j]?) h;simp only[Iz a] at this;exact AS this
 ·intro h
  exact Ba fun j a=>h j (List.mem_range.mp a)
def aN(L:Nat->Vc):Nat->Vc->Vc
 |0,x=>x
 |k+1,x=>aN L k (fun u=>x u-x k / L k k*L k u)
def SL(L:Nat->Vc)(k:Nat)(x:Vc):Prop:=∃c:Vc,∀j,j<k->x j=cmb (lst k c) ((Ah k).map L) j
section
variable{L f:Nat->Vc}{r:Nat}{Λ:Vc->Prop}
structure Lt(Λ:Vc->Prop):Prop where
 z:Λ fun _=>0
 s:∀{v w:Vc}(m:Int),Λ v->Λ w->Λ fun u=>v u-m*w u
def Lt.cmb(T:Lt Λ):∀(c:List Int)(S:List Vc),(∀s∈S,Λ s)->Λ (Tb.cmb c S)
 |[],[],_=>T.z
 |[],_::_,_=>T.z
 |_::_,[],_=>T.z
 |a::c,s::S,h=>by
  have:=T.s (-a) (Lt.cmb T c S fun w hw=>h w (.tail _ hw)) (h s (.head _));have e:(fun u=>Tb.cmb c S u - -a*s u)=Tb.cmb (a::c) (s::S):=funext fun u=>by show Tb.cmb c S u - -a*s u=a*s u+Tb.cmb c S u;rw[Int.neg_mul];(first|lia|omega)
  rw[e] at this;exact this
structure Two(Λ:Vc->Prop)(r:Nat)(L f:Nat->Vc):Prop where
 lt:Lt Λ
 li:∀i,i<r->Λ (L i)
 lp:∀i,i<r->0<L i i
 lz:∀i j,i<j->j<r->L i j=0
 fi:∀i,i<r->Λ (f i)
 fp:∀i,i<r->0<f i i
 fz:∀i j,i<r->j<i->f i j=0
 ld:∀v i,Λ v->i<r->(∀j,j<i->v j=0)->f i i ∣ v i
def IA(T:Two Λ r L f):∀(k:Nat)(x:Vc)(j:Nat),k<=j->j<r->aN L k x j=x j
 |0,_,_,_,_=>rfl
 |k+1,x,j,hk,hj=>by
  show aN L k _ j=x j;rw[IA T k _ j ω hj,T.lz k j ω hj];(first|lia|omega)
def IB(T:Two Λ r L f):∀(k:Nat)(x:Vc),k<=r->∀i,i<k->0<=aN L k x i/\aN L k x i<L i i
 |k+1,x,hk,i,hi=>by
  by_cases e:i=k
  ·subst e
   show 0<=aN L i _ i/\aN L i _ i<L i i;rw[IA T i _ i (Ae _) ω];have a:=T.lp i ω;have em:x i-x i / L i i*L i i=x i%L i i:=by have:=Int.emod_add_mul_ediv (x i) (L i i);rw[Bj] at this;(first|lia|omega)
   rw[em];exact⟨Int.emod_nonneg _ ω,Int.emod_lt_of_pos _ a⟩
  ·exact IB T k _ ω i ω
def E3:∀(k:Nat)(x:Vc),∃c:Vc,∀u,x u-aN L k x u=cmb (lst k c) ((Ah k).map L) u
 |0,x=>⟨fun _=>0,fun u=>by show x u-x u=0;(first|lia|omega)⟩
 |k+1,x=>by
  obtain⟨c,hc⟩:=E3 k (fun u=>x u-x k / L k k*L k u);refine⟨fun i=>if i=k then x k / L k k else c i,fun u=>?_⟩;have e1:lst (k+1) (fun i=>if i=k then x k / L k k else c i)=lst k c++[x k / L k k]:=by
   unfold lst;rw[List.range_succ,Aq]
   congr 1
   ·exact Ba fun i hi=>if_neg (Az (List.mem_range.mp hi))
   ·show [if k=k then _ else _]=_;rw[if_pos rfl]
  have e:∀(c:List Int)(S:List Vc)(a:Int)(v:Vc),c.length=S.length->cmb (c++[a]) (S++[v]) u=cmb c S u+a*v u:=by
   intro c
   induction c with
   |nil=>intro S a v d;rw[AG d.symm];show a*v u+0=0+a*v u;(first|lia|omega)
   |cons b c ih=>intro S a v d;cases S with
    |nil=>simp at d
    |cons s S=>show b*s u+cmb (c++[a]) (S++[v]) u=b*s u+cmb c S u+a*v u;rw[ih S a v (by simpa using d)];(first|lia|omega)
  rw[e1,List.range_succ,Aq,A5,List.map_nil,e _ _ _ _ (by rw[iw];simp),<-hc u];show x u-aN L k _ u=_;(first|lia|omega)
def Two.small(T:Two Λ r L f){v:Vc}{k:Nat}(hk:k<=r)(b:Λ v)(h:∀j,j<k->(v j).natAbs<(f j j).natAbs):∀j,j<k->v j=0:=by
 intro j
 induction j using Nat.strongRecOn with
 |_ j ih=>
  intro a;obtain⟨m,e⟩:=T.ld v j b ω fun i hi=>ih i hi ω;have:=h j a;rw[e,AD] at this;rcases Nat.eq_zero_or_pos m.natAbs with z|z
  ·rw[e,Int.natAbs_eq_zero.mp z,Bi]
  ·have:(f j j).natAbs*1<=(f j j).natAbs*m.natAbs:=Ak _ z
   (first|lia|omega)
def tn(g:Nat->Vc)(k:Nat):List Nat:=(Ah k).map fun i=>(g i i).toNat
def CY{a:Nat->Vc}{k:Nat}{x:List Int}(h:x∈allb (tn a k)):x.length=k/\∀j,j<k->0<=vl x j/\vl x j<((a j j).toNat:Int):=by
 obtain⟨h1,h2⟩:=jh.mp h;unfold tn at h1 h2;rw[Aa,A9] at h1;refine⟨h1,fun j b=>?_⟩;have e:x[j]?=some (x[j]'ω):=Ac ω;have:=h2 j _ _ e (by rw[Aj,AQ b];rfl);unfold vl;rw[Ab,e];exact this
def IC{x y:List Int}{k:Nat}(hx:x.length=k)(hy:y.length=k)(h:∀j,j<k->vl x j=vl y j):x=y:=by
 refine AX ω fun i h1 h2=>?_;have:=h i ω;unfold vl at this;rw[Ab,Ab,Ac h1,Ac h2] at this;exact this
def ID(T:Two Λ r L f){k:Nat}(hk:k<=r)(x:Vc):lst k (aN L k x)∈allb (tn L k):=by
 refine jh.mpr ⟨by unfold tn;rw[iw];simp,fun i z t hz a=>?_⟩;have hi:i<k:=by have:=(List.getElem?_eq_some_iff.mp hz).1;rwa [iw] at this
 rw[Iz hi] at hz;obtain rfl:=AS hz;unfold tn at a;rw[Aj,AQ hi] at a;obtain rfl:=AS a;have:=IB T k x hk i hi;have:=T.lp i ω;show 0<=aN L k x i/\aN L k x i<((L i i).toNat:Int);(first|lia|omega)
def IE(T:Two Λ r L f){k:Nat}(hk:k<=r){x y:Vc}(h:lst k (aN L k x)=lst k (aN L k y)):∃v,Λ v/\SL L k v/\∀j,j<k->v j=x j-y j:=by
 obtain⟨c,hc⟩:=E3 (L:=L) k x;obtain⟨d,hd⟩:=E3 (L:=L) k y;have g:∀s∈(Ah k).map L,Λ s:=fun s a=>by
  obtain⟨i,hi,rfl⟩:=List.mem_map.mp a;exact T.li i (Av (List.mem_range.mp hi) hk)
 have e:∀u,cmb (lst k fun i=>c i-d i) ((Ah k).map L) u=cmb (lst k c) ((Ah k).map L) u-cmb (lst k d) ((Ah k).map L) u:=fun u=>by
  rw[<-CG _ _ _ (by rw[iw];simp) (by rw[iw];simp)]
  congr 1
  apply AX
  ·simp[iw]
  ·intro i h1 h2;simp only[lst,AW,AZ,A7]
 refine⟨cmb (lst k fun i=>c i-d i) ((Ah k).map L),T.lt.cmb _ _ g,⟨_,fun j _=>rfl⟩,fun j b=>?_⟩;rw[e,<-hc j,<-hd j,N4.mp h j b];(first|lia|omega)
def E4(T:Two Λ r L f){k:Nat}(hk:k<=r):pr (tn f k)<=pr (tn L k):=by
 rw[<-j8,<-j8];refine E2 (f:=fun x=>lst k (aN L k (vl x))) (ol _) (fun x _=>ID T hk _) fun x hx y hy e=>?_;obtain⟨v,c,_,b⟩:=IE T hk e;obtain⟨d,g⟩:=CY hx;obtain⟨h,i⟩:=CY hy;have z:=T.small hk c fun j a=>by
  have h1:=g j a;have h2:=i j a
  have l:=T.fp j ω;rw[b j a];(first|lia|omega)
 exact IC d h fun j a=>by have:=z j a;rw[b j a] at this;(first|lia|omega)
def half_lt(T:Two Λ r L f){k:Nat}(hk:k<=r){w:Vc}(hw:Λ w)(hn:¬SL L k w):2*pr (tn f k)<=pr (tn L k):=by
 have eq:2*pr (tn f k)=((allb (tn f k)).map (fun x=>(false,x))++(allb (tn f k)).map (fun x=>(true,x))).length:=by rw[AJ,Aa,Aa,j8];(first|lia|omega)
 rw[eq,<-j8]
 let g:Bool×List Int->Vc:=fun p=>if p.1=true then fun u=>vl p.2 u+w u else vl p.2
 have mem:∀p∈(allb (tn f k)).map (fun x=>(false,x))++(allb (tn f k)).map (fun x=>(true,x)),p.2∈allb (tn f k):=fun p hp=>by
  rcases List.mem_append.mp hp with h|h<;>(obtain⟨x,hx,rfl⟩:=List.mem_map.mp h;exact hx)
 refine E2 (f:=fun p=>lst k (aN L k (g p))) ?_ (fun p _=>ID T hk _) fun p hp q hq e=>?_
 ·rw[List.nodup_append]
  refine⟨?_,?_,fun x hx y hy=>?_⟩
  ·exact List.Pairwise.map _ (fun a b(h:a≠b) e=>h (by injection e)) (ol _)
  ·exact List.Pairwise.map _ (fun a b(h:a≠b) e=>h (by injection e)) (ol _)
  ·obtain⟨_,_,rfl⟩:=List.mem_map.mp hx
   obtain⟨_,_,rfl⟩:=List.mem_map.mp hy;intro z;injection z with z;cases z
 ·obtain⟨v,o,sv,l⟩:=IE T hk e
  obtain⟨a,x⟩:=p;obtain⟨b,y⟩:=q;obtain⟨F,G⟩:=CY (show x∈_ from mem _ hp);obtain⟨H,I⟩:=CY (show y∈_ from mem _ hq);have fin:∀{A:Vc},Λ A->(∀j,j<k->A j=vl x j-vl y j)->x=y:=fun{A} E D=>by
   have z:=T.small hk E fun j d=>by
    have h1:=G j d;have h2:=I j d
    have J:=T.fp j ω;rw[D j d];(first|lia|omega)
   exact IC F H fun j d=>by have:=z j d;rw[D j d] at this;(first|lia|omega)
  cases a with
  |false=>
   cases b with
   |false=>rw[fin o fun j d=>by rw[l j d];rfl]
   |true=>
    exfalso
    have C:=fin (T.lt.s (-1) o hw) fun j d=>by rw[l j d];show vl x j-(vl y j+w j) - -1*w j=_;(first|lia|omega)
    subst C;obtain⟨c,hc⟩:=sv;apply hn;refine⟨fun i=>-c i,fun j d=>?_⟩;have h1:=l j d;have h2:=hc j d;have e2:cmb (lst k fun i=>-c i) ((Ah k).map L) j=-cmb (lst k c) ((Ah k).map L) j:=by
     have:=gO (-1) 0 (lst k c) (lst k c) ((Ah k).map L) (by rw[iw];simp) (by rw[iw];simp) j;rw[show(-1:Int)*cmb (lst k c) ((Ah k).map L) j+0*cmb (lst k c) ((Ah k).map L) j=-cmb (lst k c) ((Ah k).map L) j from ω] at this;rw[<-this]
     congr 1
     apply AX
     ·simp[iw]
     ·intro i h1 h2;simp only[lst,AW,AZ,A7];(first|lia|omega)
    rw[e2,<-h2,h1];show w j=-(vl x j-(vl x j+w j));(first|lia|omega)
  |true=>
   cases b with
   |true=>rw[fin o fun j d=>by rw[l j d];show vl x j+w j-(vl y j+w j)=_;(first|lia|omega)]
   |false=>
    exfalso
    have C:=fin (T.lt.s 1 o hw) fun j d=>by rw[l j d];show vl x j+w j-vl y j-1*w j=_;(first|lia|omega)
    subst C;obtain⟨c,hc⟩:=sv;exact hn ⟨c,fun j d=>by rw[<-hc j d,l j d];show w j=vl x j+w j-vl x j;(first|lia|omega)⟩
def IF{j k:Nat}{c:Vc}(h:∀i,i<k->L i j=0):cmb (lst k c) ((Ah k).map L) j=0:=
 zJ _ _ fun v a=>by
  obtain⟨i,hi,rfl⟩:=List.mem_map.mp a;exact h i (List.mem_range.mp hi)
def IG(u k:Nat)(c:Vc):cmb (lst (k+1) c) ((Ah (k+1)).map L) u=cmb (lst k c) ((Ah k).map L) u+c k*L k u:=by
 have f:∀(c:List Int)(S:List Vc)(a:Int)(v:Vc),c.length=S.length->cmb (c++[a]) (S++[v]) u=cmb c S u+a*v u:=by
  intro c
  induction c with
  |nil=>intro S a v d;rw[AG d.symm];show a*v u+0=0+a*v u;(first|lia|omega)
  |cons b c ih=>intro S a v d;cases S with
   |nil=>simp at d
   |cons s S=>show b*s u+cmb (c++[a]) (S++[v]) u=b*s u+cmb c S u+a*v u;rw[ih S a v (by simpa using d)];(first|lia|omega)
 have e:lst (k+1) c=lst k c++[c k]:=by unfold lst;rw[List.range_succ,Aq];rfl
 rw[e,List.range_succ,Aq,A5,List.map_nil,f _ _ _ _ (by rw[iw];simp)]
def diag(T:Two Λ r L f)(p:∀i j,i<j->j<r->0<=f i j/\f i j<f j j)(b:∀k,k<=r->∀w,Λ w->SL L k w)(i:Nat)(hi:i<r):f i i=L i i/\(∀j,j<r->j≠i->f i j=0):=by
 obtain⟨c,hc⟩:=b i ω (L i) (T.li i hi);have x:∀s∈(Ah i).map L,Λ s:=fun s v=>by
  obtain⟨t,a,rfl⟩:=List.mem_map.mp v;exact T.li t (Nat.lt_trans (List.mem_range.mp a) hi)
 have hw:=T.lt.s 1 (T.li i hi) (T.lt.cmb (lst i c) _ x);have q:∀j,j<i->L i j-1*cmb (lst i c) ((Ah i).map L) j=0:=fun j g=>by have:=hc j g;(first|lia|omega)
 have l:∀j,i<=j->j<r->cmb (lst i c) ((Ah i).map L) j=0:=fun j h1 h2=>IF fun t a=>T.lz t j ω h2;have d1:=T.ld _ i hw hi q;have y:=T.lp i hi;have z:=T.fp i hi;obtain⟨d,hd⟩:=b (i+1) ω (f i) (T.fi i hi);have e1:=hd i ω;rw[IG,IF fun t a=>T.lz t i a hi] at e1;have d2:L i i ∣ f i i:=⟨d i,by rw[e1,Bj];(first|lia|omega)⟩;have wi:L i i-1*cmb (lst i c) ((Ah i).map L) i=L i i:=by rw[l i (Ae _) hi];(first|lia|omega)
 have o:f i i ∣ L i i:=by
  have this:f i i ∣ L i i-1*cmb (lst i c) ((Ah i).map L) i:=d1;rw[wi] at this;exact this
 have u:f i i=L i i:=Int.le_antisymm (Int.le_of_dvd y o) (Int.le_of_dvd z d2);refine⟨u,fun j g ne=>?_⟩;have A:=T.lt.s 1 (T.fi i hi) hw;have:=T.small (Ae r) A (fun t a=>?_) j g
 ·rcases Bh j i with h|h
  ·exact T.fz i j hi h
  ·have e:L i j=0:=T.lz i j ω g
   have e2:=l j ω g;have:f i j-1*(L i j-1*cmb (lst i c) ((Ah i).map L) j)=0:=this;rw[e,e2] at this;(first|lia|omega)
 ·have C:=T.fp t a
  show(f i t-1*(L i t-1*cmb (lst i c) ((Ah i).map L) t)).natAbs<(f t t).natAbs;rcases Nat.lt_trichotomy t i with h|h|h
  ·have e1:=q t h
   rw[T.fz i t hi h,e1];(first|lia|omega)
  ·subst h;rw[wi,u];(first|lia|omega)
  ·have e:L i t=0:=T.lz i t h a
   have e2:=l t ω a;have e3:=p i t h a;rw[e,e2];(first|lia|omega)
def ti(T:Two Λ r L f)(a:∀i j,i<j->j<r->0<=f i j/\f i j<f j j):(∃k,k<=r/\2*pr (tn f k)<=pr (tn L k))\/∀i,i<r->f i i=L i i/\∀j,j<r->j≠i->f i j=0:=by
 by_cases h:∀k,k<=r->∀w,Λ w->SL L k w
 ·exact .inr fun i hi=>diag T a h i hi
 ·obtain⟨k,h⟩:=Classical.not_forall.mp h
  obtain⟨hk,h⟩:=Classical.not_imp.mp h;obtain⟨w,h⟩:=Classical.not_forall.mp h;obtain⟨hw,h⟩:=Classical.not_imp.mp h;exact .inl ⟨k,hk,half_lt T hk hw h⟩
end
def N5{R:List Vc}{P:List Nat}{f:Nat->Vc}(h:Ech P f)(c:P.Pairwise (·<·))(d:∀r∈R,Sp (P.map f) r){w:Vc}(hw:Sp R w)(hb:∀p∈P,(w p).natAbs<(f p p).natAbs):∀p∈P,w p=0:=by
 have b:=hw.trans d;intro p
 induction p using Nat.strongRecOn with
 |_ p ih=>
  intro hp;obtain⟨m,e⟩:=j6 h c hp b fun q hq a=>ih q a hq;have:=hb p hp;rw[e,AD] at this;rcases Nat.eq_zero_or_pos m.natAbs with z|z
  ·rw[e,Int.natAbs_eq_zero.mp z,Bi]
  ·have:(f p p).natAbs*1<=(f p p).natAbs*m.natAbs:=Ak _ z
   (first|lia|omega)
def near{R:List Vc}{P:List Nat}{M:Nat}(l:1<=M)(d:∀v∈R,∀p∈P,(v p).natAbs<=M)(f:P.length=R.length)(e:P.Nodup)(hi:Inj R P)(v:Vc):∃q:List Int,q.length=R.length/\∀p∈P,(v p-cmb q R p).natAbs<=R.length*M:=by
 obtain⟨V,j⟩:∃V,∀p∈P,(v p).natAbs<=V:=by
  clear d f e hi
  induction P with
  |nil=>exact⟨0,fun p hp=>nomatch hp⟩
  |cons p P ih=>
   obtain⟨V,h⟩:=ih;exact⟨V+(v p).natAbs,fun q hq=>by rcases List.mem_cons.mp hq with rfl|hq;(first|lia|omega);have:=h q hq;(first|lia|omega)⟩
 obtain⟨D,s,c,a,e1,_,_⟩:=clear l d f e hi j P e fun q hq=>hq;have fin:∀(D:Int)(s:List Int),0<D->s.length=R.length->(∀p∈P,cmb s R p=D*v p)->∃q:List Int,q.length=R.length/\∀p∈P,(v p-cmb q R p).natAbs<=R.length*M:=fun D s c a e1=>by
  refine⟨s.map (· / D),by rw[Aa,a],fun p hp=>?_⟩;have e2:cmb (s.map (·%D)) R p=cmb s R p-D*cmb (s.map (· / D)) R p:=by
   have:=gO 1 (-D) s (s.map (· / D)) R a (by rw[Aa,a]) p;rw[Int.one_mul,Int.neg_mul] at this;rw[show cmb s R p-D*cmb (s.map (· / D)) R p=cmb s R p+-(D*cmb (s.map (· / D)) R p) from ω,<-this]
   congr 1
   apply AX
   ·simp
   ·intro i h1 h2
    simp only[AW,A7];have:=Int.emod_add_mul_ediv (s[i]'(by simpa using h1)) D;rw[Int.one_mul,Int.neg_mul];(first|lia|omega)
  have b:=sC (u:=p) (X:=D.natAbs) (M:=M) (s.map (·%D)) R (fun x hx=>by
   obtain⟨y,_,rfl⟩:=List.mem_map.mp hx;have h1:=Int.emod_nonneg y (show D≠0 from ω);have h2:=Int.emod_lt_of_pos y c;(first|lia|omega)) fun v g=>d v g p hp
  rw[e2,e1 p hp,<-Int.mul_sub,AD,Nat.mul_left_comm] at b;exact Nat.le_of_mul_le_mul_left b ω
 rcases Int.lt_trichotomy D 0 with h|h|h
 ·refine fin (-D) (s.map fun x=>-x) ω (by rw[Aa,a]) fun p hp=>?_
  have:=gO (-1) 0 s s R a a p;rw[show(-1:Int)*cmb s R p+0*cmb s R p=-cmb s R p from ω,e1 p hp] at this;rw[Int.neg_mul,<-this]
  congr 1
  apply AX
  ·simp
  ·intro i h1 h2;simp only[AW,A7];(first|lia|omega)
 ·exact absurd h c
 ·exact fin D s h a e1
def N6{R:List Vc}{P:List Nat}{f:Nat->Vc}{M:Nat}(G:1<=M)(hi:i' R)(h:Ech P f)(j:P.Pairwise (·<·))(v:∀r∈R,Sp (P.map f) r)(l:P.length=R.length)(hb:∀r∈R,∀p∈P,(r p).natAbs<=M):pr (P.map fun p=>(f p p).toNat)<=(2*(R.length*M)+1) ^ R.length:=by
 have q:P.Nodup:=j.imp fun h=>Az h;have inj:=CO hi h j v;have b:=fun x:List Int=>near G hb l q inj fun u=>x.getD (P.idxOf u) 0;rw[<-l,<-Cr,<-j8];have g:∀(x:List Int)(i:Nat)(hi:i<P.length),x.getD (P.idxOf P[i]) 0=x.getD i 0:=fun x i hi=>by rw[q.idxOf_getElem i hi]
 refine E2 (f:=fun x=>P.map fun p=>x.getD (P.idxOf p) 0-cmb (Classical.choose (b x)) R p+((P.length*M:Nat):Int)) (ol _) (fun x hx=>?_) fun x hx y hy e=>?_
 ·refine k4.mpr ⟨Aa _,fun z hz=>?_⟩
  obtain⟨p,hp,rfl⟩:=List.mem_map.mp hz;have:=(Classical.choose_spec (b x)).2 p hp;rw[show P.length*M=R.length*M by rw[l]];generalize cmb (Classical.choose (b x)) R p=z at this ⊢;generalize R.length*M=A at this ⊢;(first|lia|omega)
 ·obtain⟨d,c⟩:=jh.mp hx
  obtain⟨o,w⟩:=jh.mp hy;rw[Aa] at d o;obtain⟨C,_⟩:=Classical.choose_spec (b x);obtain⟨D,_⟩:=Classical.choose_spec (b y);have sp:Sp R fun u=>cmb (Classical.choose (b x)) R u-1*cmb (Classical.choose (b y)) R u:=(show Sp R (cmb (Classical.choose (b x)) R) from⟨_,C,fun _=>rfl⟩).sub ⟨_,D,fun _=>rfl⟩ 1;have s:∀p∈P,cmb (Classical.choose (b x)) R p-1*cmb (Classical.choose (b y)) R p=x.getD (P.idxOf p) 0-y.getD (P.idxOf p) 0:=fun p hp=>by
   have:=(List.map_inj_left.mp e) p hp;(first|lia|omega)
  have bd:∀(x:List Int),(∀(i:Nat) z t,x[i]?=some z->(P.map fun p=>(f p p).toNat)[i]?=some t->0<=z/\z<(t:Int))->x.length=P.length->∀p∈P,0<=x.getD (P.idxOf p) 0/\x.getD (P.idxOf p) 0<((f p p).toNat:Int):=fun x c d p hp=>by
   obtain⟨i,a,rfl⟩:=Bg hp;rw[g x i a,Ab,Ac ω];exact c i _ _ (Ac ω) (by rw[Aj,Ac a];rfl)
  have z:=N5 h j v sp fun p hp=>by
   have h1:=bd x c d p hp;have h2:=bd y w o p hp
   have H:=h.pos p hp;have E:=s p hp;show(cmb (Classical.choose (b x)) R p-1*cmb (Classical.choose (b y)) R p).natAbs<_;rw[E];(first|lia|omega)
  refine AX ω fun i h1 h2=>?_;have a:i<P.length:=ω
  have:=z P[i] (AI a);have e2:=s P[i] (AI a);rw[g x i a,g y i a,Ab,Ab,Ac h1,Ac h2] at e2;have F:cmb (Classical.choose (b x)) R P[i]-1*cmb (Classical.choose (b y)) R P[i]=0:=this;rw[F] at e2;show x[i]=y[i];have e3:(some x[i]).getD 0=x[i]:=rfl;have I:(some y[i]).getD 0=y[i]:=rfl;(first|lia|omega)
def sm(ρ:Nat->Vc)(c:Nat->Int):Nat->Nat->Int
 |0,_=>0
 |j+1,u=>sm ρ c j u+c j*ρ j u
def CZ{ρ:Nat->Vc}{c:Vc}(u:Nat):∀j,cmb (lst j c) ((Ah j).map ρ) u=sm ρ c j u
 |0=>rfl
 |j+1=>by rw[IG,CZ u j];rfl
def IH(c:List Int):lst c.length (vl c)=c:=range_getD c
def tj{ρ:Nat->Vc}{c:Vc}{u:Nat}:∀j,(∀i,i<j->c i*ρ i u=0)->sm ρ c j u=0
 |0,_=>rfl
 |j+1,h=>by show sm ρ c j u+c j*ρ j u=0;rw[tj j fun i hi=>h i ω,h j ω];rfl
def tw{ρ:Nat->Vc}{c:Vc}{u:Nat}:∀(n j:Nat),(∀i,j<=i->i<j+n->c i*ρ i u=0)->sm ρ c (j+n) u=sm ρ c j u
 |0,_,_=>rfl
 |n+1,j,h=>by show sm ρ c (j+n) u+c (j+n)*ρ (j+n) u=_;rw[tw n j fun i h1 h2=>h i h1 ω,h (j+n) ω ω];(first|lia|omega)
def sd(ρ:Nat->Vc)(c:Nat->Int)(m:Nat):Nat->Nat->Int
 |0,_=>0
 |n+1,u=>sd ρ c m n u+c (m-1-n)*ρ (m-1-n) u
def II{ρ:Nat->Vc}{c:Vc}{m u:Nat}:∀n,n<=m->sm ρ c m u=sm ρ c (m-n) u+sd ρ c m n u
 |0,_=>by show _=sm ρ c m u+0;(first|lia|omega)
 |n+1,h=>by
  rw[II n ω];have e:m-n=(m-1-n)+1:=ω
  have e2:m-(n+1)=m-1-n:=ω
  rw[e,e2];show sm ρ c (m-1-n) u+c (m-1-n)*ρ (m-1-n) u+sd ρ c m n u=sm ρ c (m-1-n) u+(sd ρ c m n u+c (m-1-n)*ρ (m-1-n) u);(first|lia|omega)
structure Tri(k r w M g:Nat)(ρ:Nat->Vc)(Q:Nat->Nat):Prop where
 g1:1<=g
 rk:r<=k
 rw:r<=w
 qs:∀a b,a<b->b<k-r->Q a<Q b
 qw:∀a,a<k-r->w<=Q a
 tp:∀i,i<r->0<ρ i i
 tz:∀i j,i<r->i<j->j<w->ρ i j=0
 tl:∀i j,i<r->j<i->(ρ i j).natAbs<=(ρ i i).natAbs
 tq:∀i a,i<r->a<k-r->(ρ i (Q a)).natAbs<=g*(ρ (r+a) (Q a)).natAbs
 kz:∀a u,a<k-r->u<Q a->ρ (r+a) u=0
 kp:∀a,a<k-r->0<ρ (r+a) (Q a)
 kq:∀a b,a<b->b<k-r->0<=ρ (r+a) (Q b)/\ρ (r+a) (Q b)<ρ (r+b) (Q b)
 tm:∀i,i<r->(ρ i i).natAbs<=M
 km:∀a,a<k-r->g*(ρ (r+a) (Q a)).natAbs<=M
section
variable{k r w M g:Nat}{ρ:Nat->Vc}{Q:Nat->Nat}
def Tri.low(T:Tri k r w M g ρ Q){a u:Nat}(b:a<k-r)(hu:u<w):ρ (r+a) u=0:=T.kz a u b (Av hu (T.qw a b))
def sa(ρ:Nat->Vc)(c:Nat->Int)(m:Nat):Nat->Nat
 |0=>0
 |n+1=>sa ρ c m n+(c (m-1-n)).natAbs*(ρ (m-1-n) (m-1-n)).natAbs
def Tri.top_le(T:Tri k r w M g ρ Q){c:Vc}{m V:Nat}(j:m<=r)(f:∀i,i<m->(sm ρ c m i).natAbs<=V):∀n,n<=m->sa ρ c m n+V<=V*2 ^ n
 |0,_=>by show 0+V<=V*1;(first|lia|omega)
 |n+1,h=>by
  have d:=Tri.top_le T j f n ω;have hi:m-1-n<m:=ω
  have o:(sd ρ c m n (m-1-n)).natAbs<=sa ρ c m n:=by
   have:∀a,a<=n->(sd ρ c m a (m-1-n)).natAbs<=sa ρ c m a:=by
    intro a
    induction a with
    |zero=>intro _;exact Ae 0
    |succ a d=>
     intro l;have h1:=d ω;have h2:=T.tl (m-1-a) (m-1-n) ω ω;have p:(c (m-1-a)*ρ (m-1-a) (m-1-n)).natAbs<=(c (m-1-a)).natAbs*(ρ (m-1-a) (m-1-a)).natAbs:=by rw[AD];exact Ak _ h2
     have q:=Int.natAbs_add_le (sd ρ c m a (m-1-n)) (c (m-1-a)*ρ (m-1-a) (m-1-n));show(sd ρ c m a (m-1-n)+c (m-1-a)*ρ (m-1-a) (m-1-n)).natAbs<=sa ρ c m a+_;(first|lia|omega)
   exact this n (Ae _)
  have e:sm ρ c m (m-1-n)=c (m-1-n)*ρ (m-1-n) (m-1-n)+sd ρ c m n (m-1-n):=by
   rw[II n ω,show m-n=(m-1-n)+1 from ω];show sm ρ c (m-1-n) (m-1-n)+_+_=_;rw[tj (m-1-n) fun i b=>by rw[T.tz i (m-1-n) ω b (by have:=T.rw;(first|lia|omega)),Bi]];(first|lia|omega)
  have s:=f (m-1-n) hi;have u:(c (m-1-n)).natAbs*(ρ (m-1-n) (m-1-n)).natAbs<=V+sa ρ c m n:=by
   rw[<-AD];(first|lia|omega)
  show sa ρ c m n+(c (m-1-n)).natAbs*(ρ (m-1-n) (m-1-n)).natAbs+V<=V*2 ^ (n+1);rw[Nat.pow_succ,<-AN];(first|lia|omega)
def sc(c:Nat->Int):Nat->Nat
 |0=>0
 |n+1=>sc c n+(c n).natAbs
def N7{c:Vc}{n i:Nat}(h:i<n):(c i).natAbs<=sc c n:=by
 induction n with
 |zero=>(first|lia|omega)
 |succ n ih=>
  show _<=sc c n+(c n).natAbs
  by_cases e:i=n
  ·subst e;(first|lia|omega)
  ·have:=ih ω;(first|lia|omega)
def Tri.top_sum(T:Tri k r w M g ρ Q){c:Vc}{m V:Nat}(a:m<=r)(b:∀i,i<m->(sm ρ c m i).natAbs<=V):sc c m+V<=V*2 ^ m:=by
 have h1:=T.top_le a b m (Ae _);have h2:∀n,n<=m->sc c m<=sc c (m-n)+sa ρ c m n:=by
  intro n
  induction n with
  |zero=>intro _;exact Ae _
  |succ n ih=>
   intro hn;have:=ih ω;have hp:=T.tp (m-1-n) ω;rw[show m-n=(m-1-n)+1 from ω] at this;rw[show m-(n+1)=m-1-n from ω];have d:(c (m-1-n)).natAbs*1<=(c (m-1-n)).natAbs*(ρ (m-1-n) (m-1-n)).natAbs:=Ak _ ω;show sc c m<=sc c (m-1-n)+(sa ρ c m n+_);have e:sc c (m-1-n+1)=sc c (m-1-n)+(c (m-1-n)).natAbs:=rfl;(first|lia|omega)
 have:=h2 m (Ae _);rw[Nat.sub_self] at this;have:sc c 0=0:=rfl;(first|lia|omega)
def IJ{c:Vc}{u K:Nat}:∀n,(∀i,i<n->(ρ i u).natAbs<=K)->(sm ρ c n u).natAbs<=K*sc c n
 |0,_=>AB _
 |n+1,h=>by
  have h1:=IJ (c:=c) n fun i hi=>h i ω;have h2:(c n*ρ n u).natAbs<=K*(c n).natAbs:=by rw[AD,Nat.mul_comm];exact Al _ (h n ω)
  have a:=Int.natAbs_add_le (sm ρ c n u) (c n*ρ n u);show(sm ρ c n u+c n*ρ n u).natAbs<=K*(sc c n+(c n).natAbs);rw[Nat.mul_add];(first|lia|omega)
def Tri.all_sum(T:Tri k r w M g ρ Q){c:Vc}{V:Nat}:∀n,n<=k-r->(∀i,i<r->(sm ρ c (r+n) i).natAbs<=V)->(∀a,a<n->(sm ρ c (r+n) (Q a)).natAbs<=V)->sc c (r+n)+V<=V*2 ^ r*(1+g) ^ n:=by
 intro n;have base:∀n,n<=k-r->(∀i,i<r->(sm ρ c (r+n) i).natAbs<=V)->sc c r+V<=V*2 ^ r:=fun n hn d=>T.top_sum (Ae r) fun i hi=>by
  have:=d i hi
  rwa [tw n r fun j h1 h2=>by
   have:=T.low (a:=j-r) (u:=i) ω (by have:=T.rw;(first|lia|omega));rw[show r+(j-r)=j from ω] at this;rw[this,Bi]] at this
 intro hn d hq;have hb:=base n hn d;have:∀b,b<=n->sc c (r+b)+V<=V*2 ^ r*(1+g) ^ b:=by
  intro b
  induction b with
  |zero=>intro _;rw[Nat.pow_zero,Nat.mul_one];exact hb
  |succ b ih=>
   intro o;have h1:=ih ω;have hp:=T.kp b ω;have e:sm ρ c (r+n) (Q b)=sm ρ c (r+b) (Q b)+c (r+b)*ρ (r+b) (Q b):=by
    have:=tw (ρ:=ρ) (c:=c) (u:=Q b) (n-(b+1)) (r+(b+1)) fun j h1 h2=>by
     have:=T.kz (j-r) (Q b) ω (T.qs b (j-r) ω ω);rw[show r+(j-r)=j from ω] at this;rw[this,Bi]
    rw[show r+(b+1)+(n-(b+1))=r+n from ω] at this;rw[this];rfl
   have h2:(sm ρ c (r+b) (Q b)).natAbs<=(g*(ρ (r+b) (Q b)).natAbs)*sc c (r+b):=IJ (r+b) fun i hi=>by
    by_cases f:i<r
    ·exact T.tq i b f ω
    ·have:=T.kq (i-r) b ω ω
     rw[show r+(i-r)=i from ω] at this;have:1*(ρ (r+b) (Q b)).natAbs<=g*(ρ (r+b) (Q b)).natAbs:=Al _ T.g1;(first|lia|omega)
   have p:=hq b ω;have l:(c (r+b)).natAbs*(ρ (r+b) (Q b)).natAbs<=V+(g*(ρ (r+b) (Q b)).natAbs)*sc c (r+b):=by
    rw[<-AD];(first|lia|omega)
   generalize hκ:(ρ (r+b) (Q b)).natAbs=κ at h2 l;have h:1<=κ:=ω
   have q:(c (r+b)).natAbs<=V+g*sc c (r+b):=by
    have:κ*(c (r+b)).natAbs<=κ*(V+g*sc c (r+b)):=by
     rw[Nat.mul_add,Nat.mul_comm κ (c (r+b)).natAbs,<-AN,Nat.mul_comm κ g];have:V<=κ*V:=Nat.le_mul_of_pos_left _ h;(first|lia|omega)
    exact Nat.le_of_mul_le_mul_left this h
   show sc c (r+b)+(c (r+b)).natAbs+V<=V*2 ^ r*(1+g) ^ (b+1);rw[Nat.pow_succ,<-AN];have s:(sc c (r+b)+V)*(1+g)<=V*2 ^ r*(1+g) ^ b*(1+g):=Al _ h1;have v:(sc c (r+b)+V)*(1+g)=sc c (r+b)+V+(g*sc c (r+b)+g*V):=by rw[Nat.mul_add,Nat.mul_one,Nat.mul_comm _ g,Nat.mul_add]
   have x:1*V<=g*V:=Al _ T.g1;(first|lia|omega)
 exact this n (Ae _)
end
def tH:∀(a b:List Nat),pr (a++b)=pr a*pr b
 |[],b=>by show pr b=1*pr b;(first|lia|omega)
 |t::a,b=>by show t*pr (a++b)=t*pr a*pr b;rw[tH a b,AN]
def IK(g:Nat->Vc)(k:Nat):tn g (k+1)=tn g k++[(g k k).toNat]:=by unfold tn;rw[List.range_succ,Aq];rfl
def ot{g:Nat->Vc}:∀{k:Nat},(∀i,i<k->0<g i i)->1<=pr (tn g k)
 |0,_=>Ae _
 |k+1,h=>by
  rw[IK,tH];have h1:=ot (k:=k) fun i hi=>h i ω;have h2:=h k ω;exact nY h1 (by show 1<=(g k k).toNat*1;(first|lia|omega))
def E5{g:Nat->Vc}{k:Nat}(h:∀i,i<k+1->0<g i i):(g k k).toNat<=pr (tn g (k+1)):=by
 rw[IK,tH];have:=ot (k:=k) fun i hi=>h i ω;show _<=pr (tn g k)*((g k k).toNat*1);rw[Nat.mul_one];exact Nat.le_mul_of_pos_left _ this
section
variable{k r w M g:Nat}{ρ:Nat->Vc}{Q:Nat->Nat}
def pl(r j:Nat)(Q:Nat->Nat):List Nat:=Ah (min j r)++(Ah (j-r)).map Q
def IL{j:Nat}:(pl r j Q).length=j:=by unfold pl;rw[AJ,A9,Aa,A9];(first|lia|omega)
def Tri.sum_le(T:Tri k r w M g ρ Q){j V:Nat}{c:Vc}(e:j<=k)(b:∀p∈pl r j Q,(sm ρ c j p).natAbs<=V):sc c j+V<=V*(1+g) ^ j:=by
 rcases Bh j r with h|h
 ·have:=T.top_sum (m:=j) ω fun i hi=>b i (A6 _ (List.mem_range.mpr ω))
  have g2:2 ^ j<=(1+g) ^ j:=Nat.pow_le_pow_left (by have:=T.g1;(first|lia|omega)) _;exact Ag this (Ak _ g2)
 ·have:=T.all_sum (c:=c) (V:=V) (j-r) ω (fun i hi=>?_) fun a d=>?_
  ·rw[show r+(j-r)=j from ω] at this
   have g2:2 ^ r<=(1+g) ^ r:=Nat.pow_le_pow_left (by have:=T.g1;(first|lia|omega)) _;have g3:V*2 ^ r*(1+g) ^ (j-r)<=V*(1+g) ^ r*(1+g) ^ (j-r):=Al _ (Ak _ g2);rw[AN V ((1+g) ^ r),<-Nat.pow_add,show r+(j-r)=j from ω] at g3;exact Ag this g3
  ·rw[show r+(j-r)=j from ω]
   exact b i (A6 _ (List.mem_range.mpr ω))
  ·rw[show r+(j-r)=j from ω]
   exact b (Q a) (AE _ (List.mem_map.mpr ⟨a,List.mem_range.mpr d,rfl⟩))
def Tri.lead(T:Tri k r w M g ρ Q){j p:Nat}{c:Vc}(G:j<=k)(hz:∀u,u<p->sm ρ c j u=0)(hp:sm ρ c j p≠0):p∈pl r j Q:=by
 by_cases C:∃i,i<min j r/\c i≠0
 ·-- eI f row of eI slope that stands there
  have f:∀m,m<=min j r->(∃i,i<m/\c i≠0)->∃i,i<m/\c i≠0/\∀d,i<d->d<m->c d=0:=by
   intro m
   induction m with
   |zero=>rintro _ ⟨i,hi,_⟩;(first|lia|omega)
   |succ m ih=>
    rintro F ⟨i,hi,hc⟩
    by_cases e:c m=0
    ·obtain⟨d,h1,h2,q⟩:=ih ω ⟨i,by rcases Bh i m with h|h;exact h;exact absurd (show c i=0 by rw[show i=m from ω];exact e) hc,hc⟩
     exact⟨d,ω,h2,fun y D E=>by by_cases e2:y=m;rw[e2];exact e;exact q y D ω⟩
    ·exact⟨m,ω,e,fun d h1 h2=>ω⟩
  obtain⟨i,hi,hc,s⟩:=f _ (Ae _) C;have v:i<r:=ω
  have e:sm ρ c j i=c i*ρ i i:=by
   have h1:=tw (ρ:=ρ) (c:=c) (u:=i) (j-(i+1)) (i+1) fun d h1 h2=>by
    by_cases h:d<r
    ·rw[s d ω ω,Int.zero_mul]
    ·have:=T.low (a:=d-r) (u:=i) ω (by have:=T.rw;(first|lia|omega))
     rw[show r+(d-r)=d from ω] at this;rw[this,Bi]
   rw[show i+1+(j-(i+1))=j from ω] at h1;rw[h1];show sm ρ c i i+c i*ρ i i=_;rw[tj i fun d l=>by rw[T.tz d i ω l (by have:=T.rw;(first|lia|omega)),Bi]];(first|lia|omega)
  have x:sm ρ c j i≠0:=by rw[e];exact Int.mul_ne_zero hc (by have:=T.tp i v;(first|lia|omega))
  have:p<=i:=by
   rcases Bh i p with h|h
   ·exact absurd (hz i h) x
   ·exact h
  exact A6 _ (List.mem_range.mpr ω)
 ·have A:∀i,i<min j r->c i=0:=fun i hi=>AM fun z=>C ⟨i,hi,z⟩
  have first:∀n,(∃a,a<n/\c (r+a)≠0)->∃a,a<n/\c (r+a)≠0/\∀b,b<a->c (r+b)=0:=by
   intro n
   induction n with
   |zero=>rintro⟨a,o,_⟩;(first|lia|omega)
   |succ n ih=>
    rintro⟨a,o,hc⟩
    by_cases h:∃a,a<n/\c (r+a)≠0
    ·obtain⟨a',h1,h2,q⟩:=ih h
     exact⟨a',ω,h2,q⟩
    ·exact⟨a,o,hc,fun b hb=>AM fun z=>h ⟨b,ω,z⟩⟩
  have ex:∃a,a<j-r/\c (r+a)≠0:=AM fun no=>hp (tj j fun i hi=>by
   by_cases h:i<r
   ·rw[A i ω,Int.zero_mul]
   ·have:c (r+(i-r))=0:=AM fun z=>no ⟨i-r,ω,z⟩
    rw[show r+(i-r)=i from ω] at this;rw[this,Int.zero_mul])
  obtain⟨a,o,hc,s⟩:=first _ ex;have e:∀u,u<=Q a->sm ρ c j u=c (r+a)*ρ (r+a) u:=fun u hu=>by
   have h1:=tw (ρ:=ρ) (c:=c) (u:=u) (j-(r+a+1)) (r+a+1) fun d h1 h2=>by
    have:=T.kz (d-r) u ω (by have:=T.qs a (d-r) ω ω;(first|lia|omega));rw[show r+(d-r)=d from ω] at this;rw[this,Bi]
   rw[show r+a+1+(j-(r+a+1))=j from ω] at h1;rw[h1];show sm ρ c (r+a) u+c (r+a)*ρ (r+a) u=_;rw[tj (r+a) fun d l=>by
    by_cases h:d<r
    ·rw[A d ω,Int.zero_mul]
    ·have:=s (d-r) ω
     rw[show r+(d-r)=d from ω] at this;rw[this,Int.zero_mul]]
   (first|lia|omega)
  have hk:=T.kp a ω;have e1:p=Q a:=by
   rcases Nat.lt_trichotomy p (Q a) with h|h|h
   ·exact absurd (by rw[e p ω,T.kz a p ω h,Bi]) hp
   ·exact h
   ·exact absurd (by rw[<-e (Q a) (Ae _)];exact hz (Q a) h) (Int.mul_ne_zero hc (show ρ (r+a) (Q a)≠0 from ω))
  rw[e1];exact AE _ (List.mem_map.mpr ⟨a,List.mem_range.mpr o,rfl⟩)
def Tri.rows_le(T:Tri k r w M g ρ Q){j i p:Nat}(l:j<=k)(hi:i<j)(hp:p∈pl r j Q):(ρ i p).natAbs<=M:=by
 rcases List.mem_append.mp hp with h|h
 ·have h:=List.mem_range.mp h
  by_cases b:i<r
  ·have:=T.tm i b
   rcases Nat.lt_trichotomy p i with g|g|g
   ·have:=T.tl i p b g;(first|lia|omega)
   ·subst g;exact this
   ·rw[T.tz i p b g (by have:=T.rw;(first|lia|omega))];exact AB _
  ·have:=T.low (a:=i-r) (u:=p) ω (by have:=T.rw;(first|lia|omega))
   rw[show r+(i-r)=i from ω] at this;rw[this];exact AB _
 ·obtain⟨a,c,rfl⟩:=List.mem_map.mp h
  have c:=List.mem_range.mp c;have d:=T.km a ω;have f:1*(ρ (r+a) (Q a)).natAbs<=g*(ρ (r+a) (Q a)).natAbs:=Al _ T.g1
  by_cases b:i<r
  ·have:=T.tq i a b ω;(first|lia|omega)
  ·rcases Nat.lt_trichotomy (i-r) a with g'|g'|g'
   ·have:=T.kq (i-r) a g' ω
    rw[show r+(i-r)=i from ω] at this;(first|lia|omega)
   ·have e:ρ i (Q a)=ρ (r+a) (Q a):=by rw[<-g',show r+(i-r)=i from ω]
    rw[e];(first|lia|omega)
   ·have:=T.kz (i-r) (Q a) ω (T.qs a (i-r) g' ω)
    rw[show r+(i-r)=i from ω] at this;rw[this];exact AB _
def IM(T:Tri k r w M g ρ Q){N B:Nat}(S:∀a,a<k-r->(ρ (r+a) (Q a)).natAbs<=B)(U:∀m,m<=r->pr (tn ρ m)<=B)(hk:k<=N){j:Nat}(E:j<=k):Bd N M ((1+g) ^ N) B ((Ah j).map ρ):=by
 have l:((Ah j).map ρ).length=j:=by simp
 have C:∀(c:List Int),c.length=j->∀u,cmb c ((Ah j).map ρ) u=sm ρ (vl c) j u:=fun c hc u=>by
  have:=CZ (ρ:=ρ) (c:=vl c) u j;rw[<-hc,IH] at this;rw[<-hc];exact this
 have small:∀(c:List Int)(V:Nat),c.length=j->(∀p∈pl r j Q,(cmb c ((Ah j).map ρ) p).natAbs<=V)->∀x∈c,x.natAbs<=V*(1+g) ^ j:=fun c V hc b x hx=>by
  have h1:=T.sum_le (c:=vl c) E fun p hp=>by rw[<-C c hc];exact b p hp
  obtain⟨i,hi,rfl⟩:=Bg hx;have h2:=N7 (c:=vl c) (n:=j) (i:=i) ω;have e:vl c i=c[i]:=by unfold vl;rw[Ab,Ac hi];rfl
  rw[e] at h2;(first|lia|omega)
 have ind:i' ((Ah j).map ρ):=fun c hc hz x hx=>by
  have:=small c 0 (by rw[hc,l]) (fun p _=>by rw[hz];exact Ae 0) x hx;(first|lia|omega)
 refine⟨ind,fun P f h o F G I=>?_⟩;rw[l] at I;have L:P.Nodup:=o.imp fun h=>Az h;have sub:∀p∈P,p∈pl r j Q:=fun p hp=>by
  obtain⟨c,hc,e⟩:=G p hp;rw[l] at hc;refine T.lead (c:=vl c) E (fun u hu=>?_) ?_
  ·rw[<-C c hc,<-e];exact h.z p hp u hu
  ·rw[<-C c hc,<-e];have:=h.pos p hp;(first|lia|omega)
 have d:∀p∈pl r j Q,p∈P:=fun p hp=>AM fun z=>by
  have D:(p::P).Nodup:=List.nodup_cons.mpr ⟨z,L⟩;have:=D.length_le_of_subset (l₂:=pl r j Q) fun x hx=>by
   rcases List.mem_cons.mp hx with rfl|hx
   ·exact hp
   ·exact sub x hx
  rw[IL,AO] at this;(first|lia|omega)
 refine⟨fun p hp=>?_,fun s J p hp=>?_,fun c V hc b x hx=>?_⟩
 ·rcases List.mem_append.mp (sub p hp) with hg|hg
  ·have hg:=List.mem_range.mp hg
   have two:Two (Sp ((Ah j).map ρ)) (min j r) ρ f:=by
    have inP:∀i,i<min j r->i∈P:=fun i hi=>d i (A6 _ (List.mem_range.mpr hi));refine⟨⟨Sp.zero,fun m b hw=>b.sub hw m⟩,fun i hi=>Sp.mem (List.mem_map.mpr ⟨i,List.mem_range.mpr ω,rfl⟩),fun i hi=>T.tp i ω,fun i y h1 h2=>T.tz i y ω h1 (by have:=T.rw;(first|lia|omega)),fun i hi=>G i (inP i hi),fun i hi=>h.pos i (inP i hi),fun i y hi A=>h.z i (inP i hi) y A,fun v i b hi hz=>?_⟩;exact j6 h o (inP i hi) (b.trans F) fun q _ hq=>hz q hq
   have h1:=E4 two (k:=p+1) ω;have h2:=E5 (g:=f) (k:=p) fun i hi=>two.fp i ω;have W:=U (p+1) ω;have X:=h.pos p hp;(first|lia|omega)
  ·obtain⟨a,H,rfl⟩:=List.mem_map.mp hg
   have H:=List.mem_range.mp H;have sp:Sp (P.map f) (ρ (r+a)):=F _ (List.mem_map.mpr ⟨r+a,List.mem_range.mpr ω,rfl⟩);have hd:=j6 h o hp sp fun q _ hq=>T.kz a q ω hq;have Y:=T.kp a ω;have:=Nat.le_of_dvd ω (Int.natAbs_dvd_natAbs.mpr hd);have:=S a ω;(first|lia|omega)
 ·obtain⟨i,hi,rfl⟩:=List.mem_map.mp J
  exact T.rows_le E (List.mem_range.mp hi) (sub p hp)
 ·rw[l] at hc
  refine Ag (small c V hc (fun p hp=>b p (d p hp)) x hx) ?_;have h1:(1+g) ^ j<=(1+g) ^ N:=AA ω ω;have h2:V*(1+g) ^ j<=V*(1+g) ^ N:=Ak _ h1;have O:1<=N:=by
   have:0<c.length:=List.length_pos_of_mem hx;(first|lia|omega)
  exact Ag h2 (Nat.le_mul_of_pos_left _ O)
end
section
variable{k r w M g N X B:Nat}{ρ f:Nat->Vc}{Q:Nat->Nat}{P:List Nat}
def N8{l m:List Nat}(h1:l.Pairwise (·<·))(h2:m.Pairwise (·<·))(h:∀x,x∈l↔x∈m):l=m:=
 List.Perm.eq_of_pairwise (le:=fun a b=>a<=b) (fun a b _ _ g1 g2=>Nat.le_antisymm g1 g2) (h1.imp fun h=>Nat.le_of_lt h) (h2.imp fun h=>Nat.le_of_lt h) ((List.perm_ext_iff_of_nodup (h1.imp fun h=>ω) (h2.imp fun h=>ω)).mpr h)
def Tri.pl_srt(T:Tri k r w M g ρ Q){j:Nat}(d:j<=k):(pl r j Q).Pairwise (·<·):=by
 unfold pl;rw[List.pairwise_append,List.pairwise_map];refine⟨List.pairwise_lt_range,List.pairwise_lt_range.imp_of_mem fun{a b} c hb h=>T.qs a b h (by have:=List.mem_range.mp hb;(first|lia|omega)),fun x hx y hy=>?_⟩;obtain⟨a,c,rfl⟩:=List.mem_map.mp hy;have:=List.mem_range.mp hx;have:=List.mem_range.mp c;have:=T.qw a ω;have:=T.rw;(first|lia|omega)
def Tri.places(T:Tri k r w M g ρ Q){j:Nat}(d:j<=k)(h:Ech P f)(i:P.Pairwise (·<·))(l:∀p∈P,Sp ((Ah j).map ρ) (f p))(o:P.length=j):P=pl r j Q:=by
 have sub:∀p∈P,p∈pl r j Q:=fun p hp=>by
  obtain⟨c,hc,e⟩:=l p hp;have hc:c.length=j:=by simpa using hc
  have b:∀u,cmb c ((Ah j).map ρ) u=sm ρ (vl c) j u:=fun u=>by
   have:=CZ (ρ:=ρ) (c:=vl c) u j;rw[<-hc,IH] at this;rw[<-hc];exact this
  refine T.lead (c:=vl c) d (fun u hu=>?_) ?_
  ·rw[<-b,<-e];exact h.z p hp u hu
  ·rw[<-b,<-e];have:=h.pos p hp;(first|lia|omega)
 refine N8 i (T.pl_srt d) fun x=>⟨sub x,fun hx=>AM fun z=>?_⟩;have a:(x::P).Nodup:=List.nodup_cons.mpr ⟨z,i.imp fun h=>Az h⟩;have:=a.length_le_of_subset (l₂:=pl r j Q) fun y hy=>by
  rcases List.mem_cons.mp hy with rfl|hy
  ·exact hx
  ·exact sub y hy
 rw[IL,AO] at this;(first|lia|omega)
structure IN(k r w:Nat)(ρ f:Nat->Vc)(Q:Nat->Nat):Prop where
 fi:∀i,i<r->Sp ((Ah k).map ρ) (f i)
 fq:∀a,a<k-r->Sp ((Ah k).map ρ) (f (Q a))
 fz:∀i u,i<r->u<i->f i u=0
 fp:∀i,i<r->0<f i i
 fr:∀i j,i<j->j<r->0<=f i j/\f i j<f j j
 fo:∀i u,i<r->r<=u->u<w->f i u=0
 qz:∀a u,a<k-r->u<Q a->f (Q a) u=0
 qp:∀a,a<k-r->0<f (Q a) (Q a)
 qr:∀a b,a<b->b<k-r->0<=f (Q a) (Q b)/\f (Q a) (Q b)<f (Q b) (Q b)
 ir:∀i a,i<r->a<k-r->0<=f i (Q a)/\f i (Q a)<f (Q a) (Q a)
 qd:∀a,a<k-r->(f (Q a) (Q a)).natAbs<=(ρ (r+a) (Q a)).natAbs
 le:∀m,m<=r->pr (tn f m)<=pr (tn ρ m)
 hv:(∃m,m<=r/\2*pr (tn f m)<=pr (tn ρ m))\/∀i,i<r->f i i=ρ i i/\∀j,j<r->j≠i->f i j=0
def Tri.round(T:Tri k r w M g ρ Q)(F:FS N M X B ((Ah k).map ρ) P f):P=pl r k Q/\IN k r w ρ f Q:=by
 have D:((Ah k).map ρ).length=k:=by simp
 have E:P.length=k:=by rw[F.len,D]
 have sp:∀p∈P,Sp ((Ah k).map ρ) (f p):=fun p hp=>(F.fr p hp).sp;have e:=T.places (Ae k) F.ech F.srt sp E;have rk:=T.rk;have i1:∀i,i<r->i∈P:=fun i hi=>by rw[e];exact A6 _ (List.mem_range.mpr ω)
 have i2:∀a,a<k-r->Q a∈P:=fun a d=>by rw[e];exact AE _ (List.mem_map.mpr ⟨a,List.mem_range.mpr d,rfl⟩)
 have two:Two (Sp ((Ah k).map ρ)) r ρ f:=by
  refine⟨⟨Sp.zero,fun m l hw=>l.sub hw m⟩,fun i hi=>Sp.mem (List.mem_map.mpr ⟨i,List.mem_range.mpr ω,rfl⟩),fun i hi=>T.tp i hi,fun i s h1 h2=>T.tz i s ω h1 (by have:=T.rw;(first|lia|omega)),fun i hi=>sp i (i1 i hi),fun i hi=>F.ech.pos i (i1 i hi),fun i s hi x=>F.ech.z i (i1 i hi) s x,fun v i l hi hz=>?_⟩;exact j6 F.ech F.srt (i1 i hi) (l.trans F.gen) fun q _ hq=>hz q hq
 have o:∀i j,i<j->j<r->0<=f i j/\f i j<f j j:=fun i j h1 h2=>F.red i (i1 i ω) j (i1 j h2) h1;refine⟨e,fun i hi=>sp i (i1 i hi),fun a d=>sp _ (i2 a d),fun i u hi hu=>F.ech.z i (i1 i hi) u hu,fun i hi=>F.ech.pos i (i1 i hi),o,fun i u hi h1 h2=>?_,fun a u d hu=>F.ech.z _ (i2 a d) u hu,fun a d=>F.ech.pos _ (i2 a d),fun a b h1 h2=>F.red _ (i2 a ω) _ (i2 b h2) (T.qs a b h1 h2),fun i a hi d=>F.red i (i1 i hi) _ (i2 a d) (by have:=T.qw a d;have:=T.rw;(first|lia|omega)),fun a d=>?_,fun m A=>E4 two A,ti two o⟩
 ·obtain⟨c,hc,C⟩:=sp i (i1 i hi)
  rw[C];refine zJ _ _ fun v l=>?_;obtain⟨j,y,rfl⟩:=List.mem_map.mp l;have y:=List.mem_range.mp y
  by_cases h:j<r
  ·exact T.tz j u h ω h2
  ·have:=T.low (a:=j-r) (u:=u) ω h2
   rwa [show r+(j-r)=j from ω] at this
 ·have hd:=j6 F.ech F.srt (i2 a d) (F.gen (ρ (r+a)) (List.mem_map.mpr ⟨r+a,List.mem_range.mpr ω,rfl⟩)) fun q _ hq=>T.kz a q d hq
  have:=T.kp a d;exact Nat.le_of_dvd ω (Int.natAbs_dvd_natAbs.mpr hd)
end
def N9{f:Nat->Vc}{P:List Nat}{V:Nat}(h:Ech P f)(H:P.Pairwise (·<·))(E:∀p∈P,∀q∈P,p<q->0<=f p q/\f p q<f q q){l:Vc}(i:Sp (P.map f) l)(r:∀p∈P,(l p).natAbs<=V*(f p p).natAbs):∀x∈shr f P l,x.natAbs<=V*2 ^ P.length:=by
 have e:=EY h H i;generalize ha:shr f P l=a at e;have N:a.length=P.length:=by rw[<-ha,EW]
 have w:∀(P1 P2:List Nat)(a1 a2:List Int)(S:Nat),P=P1++P2->a=a1++a2->a1.length=P1.length->(∀x∈a1,x.natAbs<=S)->(∀p∈P2,(cmb a1 (P1.map f) p).natAbs<=S*(f p p).natAbs)->V+S<=V*2 ^ P1.length->∀x∈a2,x.natAbs<=V*2 ^ P.length:=by
  intro P1 P2
  induction P2 generalizing P1 with
  |nil=>
   intro a1 a2 S b o l1 _ _ _ x hx;have:a2.length=0:=by have:=congrArg List.length o;have h2:=congrArg List.length b;rw[AJ] at this h2;simp at h2;(first|lia|omega)
   rw[AG this] at hx;cases hx
  |cons p P2 ih=>
   intro a1 a2 S b o l1 I F M x hx;cases a2 with
   |nil=>cases hx
   |cons y a2=>
    have hp:p∈P:=by rw[b];simp
    have g:=H;rw[b,List.pairwise_append,Be] at g;have j:∀(c d:List Int)(A D:List Vc)(u:Nat),c.length=A.length->cmb (c++d) (A++D) u=cmb c A u+cmb d D u:=by
     intro c
     induction c with
     |nil=>intro d A D u i;rw[AG i.symm];show cmb d D u=0+cmb d D u;(first|lia|omega)
     |cons z c ih=>intro d A D u i;cases A with
      |nil=>simp at i
      |cons s A=>show z*s u+cmb (c++d) (A++D) u=z*s u+cmb c A u+cmb d D u;rw[ih d A D u (by simpa using i)];(first|lia|omega)
    have ep:l p=cmb a1 (P1.map f) p+y*f p p:=by
     rw[e,o,b,Aq,j _ _ _ _ _ (by rw[Aa,l1])];show cmb a1 (P1.map f) p+(y*f p p+cmb a2 (P2.map f) p)=_;rw[zJ a2 (P2.map f) fun v r=>by
      obtain⟨q,hq,rfl⟩:=List.mem_map.mp r;exact h.z q (by rw[b];simp[hq]) p (g.2.1.1 q hq)]
     (first|lia|omega)
    have G:=h.pos p hp;have hy:y.natAbs<=V+S:=by
     have J:=r p hp;have L:=F p (.head _);have C:y.natAbs*(f p p).natAbs<=V*(f p p).natAbs+S*(f p p).natAbs:=by rw[<-AD];(first|lia|omega)
     rw[<-Nat.add_mul] at C;exact Nat.le_of_mul_le_mul_right C ω
    have mono:V*2 ^ P1.length<=V*2 ^ P.length:=Ak _ (AA ξ (by rw[b];simp));rcases List.mem_cons.mp hx with rfl|hx
    ·(first|lia|omega)
    ·refine ih (P1++[p]) (a1++[y]) a2 (V+S+S) (by rw[b];simp) (by rw[o];simp) (by simp[l1]) (fun z hz=>?_) (fun q hq=>?_) (by rw[AJ,List.length_singleton,Nat.pow_succ,<-AN];(first|lia|omega)) x hx
     ·rcases List.mem_append.mp hz with hz|hz
      ·have:=I z hz;(first|lia|omega)
      ·rw[List.mem_singleton.mp hz];(first|lia|omega)
     ·rw[Aq,j _ _ _ _ _ (by rw[Aa,l1])]
      have J:=F q (.tail _ hq);have O:=E p hp q (by rw[b];simp[hq]) (g.2.1.1 q hq);have L:(y*f p q).natAbs<=(V+S)*(f q q).natAbs:=by rw[AD];exact AL hy ω
      have C:=Int.natAbs_add_le (cmb a1 (P1.map f) q) (y*f p q);show(cmb a1 (P1.map f) q+(y*f p q+0)).natAbs<=(V+S+S)*(f q q).natAbs;rw[Int.add_zero,Nat.add_mul (V+S) S];(first|lia|omega)
 exact w [] P [] a 0 rfl rfl rfl (fun x hx=>nomatch hx) (fun p _=>AB _) (by simp)
def glue(m:Nat)(S W:Nat->Vc):Nat->Vc:=fun i u=>if u<m then S i u else W i (u-m)
def zQ{m:Nat}{S W:Nat->Vc}{i u:Nat}(h:u<m):glue m S W i u=S i u:=if_pos h
def eX{m:Nat}{S W:Nat->Vc}{i t:Nat}:glue m S W i (m+t)=W i t:=by unfold glue;rw[if_neg ω,Nat.add_sub_cancel_left]
def tl(n:Nat)(W:Nat->Vc):List Vc:=(Ah n).map W
def E6{m:Nat}:∀(c:List Int)(L:List Vc)(t:Nat),cmb c L (m+t)=cmb c (L.map fun l=>fun t=>l (m+t)) t
 |[],[],_=>rfl
 |[],_::_,_=>rfl
 |_::_,[],_=>rfl
 |a::c,l::L,t=>by show a*l (m+t)+cmb c L (m+t)=a*l (m+t)+_;rw[E6 c L t]
section
variable{n m N M X B:Nat}{S W f:Nat->Vc}{P:List Nat}{Bc:List Vc}
def lf(n:Nat)(sh:Ξ)(Bc:List Vc):List Vc:=(Ah n).map fun j=>fun s=>cmb (sh.map fun row=>row.getD j 0) Bc s
def xy:(tl n (glue m S W)).map (fun r=>fun t=>r (m+t))=tl n W:=by
 unfold tl;rw[AV];exact Ba fun i _=>funext fun t=>eX
def C0(F:FS N M X B (tl n (glue m S W)) P f)(D:Both n (tl n W) Bc):Both n (P.map fun p=>fun t=>f p (m+t)) (lf n ((tl n (glue m S W)).map fun r=>shr f P r) Bc):=by
 have l:(tl n (glue m S W)).length=n:=by unfold tl;simp
 have e:P.length=n:=by rw[F.len,l]
 have q:=Dual.next (V:=P.map fun p=>fun t=>f p (m+t)) (sh:=(tl n (glue m S W)).map fun r=>shr f P r) D.a (by rw[Aa,e]) (by rw[Aa,l]) (fun row hr=>by
  obtain⟨r,_,rfl⟩:=List.mem_map.mp hr;rw[EW,e]) fun i u row t hu hr g=>by
   unfold tl at hu hr;rw[Aj] at hu hr;obtain⟨h,b,rfl⟩:=Option.map_eq_some_iff.mp hu;rw[Aj,b] at hr;obtain rfl:=AS hr;have v:glue m S W h∈tl n (glue m S W):=List.mem_map.mpr ⟨h,Am b,rfl⟩;have:=EY F.ech F.srt (F.gen _ v) (m+t);rw[eX,E6,AV] at this;exact this
 refine N3 q fun c hc hz x hx=>?_;have D':Both n ((tl n (glue m S W)).map fun r=>fun t=>r (m+t)) Bc:=by rw[xy];exact D
 obtain⟨d,hd,j⟩:Sp (tl n (glue m S W)) (cmb c (P.map f)):=Sp.cmb c _ fun s o=>by
  obtain⟨p,hp,rfl⟩:=List.mem_map.mp o;exact(F.fr p hp).sp
 have w:=D'.free hd fun t g=>by
  rw[<-j,E6,AV];exact hz t g
 exact EM F.ech F.srt c (by rw[hc,e]) (fun p _=>by rw[j];exact k8 d _ _ w) x hx
def N_(F:FS N M X B (tl n (glue m S W)) P f){A:Nat}(a:∀i t,i<n->(W i t).natAbs<=A):∀p∈P,∀t,(f p (m+t)).natAbs<=N*(cC N X B*A):=fun p hp t=>by
 have:=(F.fr p hp).le (u:=m+t) (M:=A) fun r hr=>by
  obtain⟨i,hi,rfl⟩:=List.mem_map.mp hr;rw[eX];exact a i t (List.mem_range.mp hi)
 exact Ag this (Al _ F.few)
def Sp.ind{R:List Vc}{v:Vc}(C:Vc->Prop)(d:C fun _=>0)(i:∀(a:Int)(x y:Vc),C x->C y->C fun u=>a*x u+y u)(b:∀r∈R,C r)(h:Sp R v):C v:=by
 obtain⟨c,_,e⟩:=h;have:∀(c:List Int)(R:List Vc),(∀r∈R,C r)->C (Tb.cmb c R):=by
  intro c
  induction c with
  |nil=>intro R _;cases R<;>exact d
  |cons a c ih=>intro R b;cases R with
   |nil=>exact d
   |cons r R=>exact i a r (Tb.cmb c R) (b r (.head _)) (ih R fun s f=>b s (.tail _ f))
 have g:=this c R b
 rwa [<-funext e] at g
end
def tI{k:Nat}{a b b':Vc}{x:Int}:dot k a (fun u=>x*b u+b' u)=x*dot k a b+dot k a b':=by
 induction k with
 |zero=>show(0:Int)=x*0+0;(first|lia|omega)
 |succ k ih=>
  show dot k a _+a k*(x*b k+b' k)=x*(dot k a b+a k*b k)+(dot k a b'+a k*b' k);rw[ih,Int.mul_add,Int.mul_add,Int.mul_left_comm];(first|lia|omega)
def aP(k w:Nat)(A:Nat->Vc)(x y:Vc):Int:=dot k x fun s=>dot w (A s) y
def IP{k w:Nat}{A:Nat->Vc}{a:Int}{x x' y:Vc}:aP k w A (fun u=>a*x u+x' u) y=a*aP k w A x y+aP k w A x' y:=by
 unfold aP;have:=EZ (k:=k) (a:=x) (a':=x') (b:=fun s=>dot w (A s) y) (x:=a) (y:=1);rw[Int.one_mul] at this;rw[<-this];exact zE fun t _=>ω
def Oa{k w:Nat}{A:Nat->Vc}{a:Int}{x y b:Vc}:aP k w A x (fun u=>a*y u+b u)=a*aP k w A x y+aP k w A x b:=by
 unfold aP;rw[<-tI];exact zn fun s _=>by show dot w (A s) (fun u=>a*y u+b u)=a*dot w (A s) y+dot w (A s) b;exact tI
def IQ{k w:Nat}{A:Nat->Vc}{y:Vc}:aP k w A (fun _=>0) y=0:=oj fun _ _=>rfl
def Ob{k w:Nat}{A:Nat->Vc}{x:Vc}:aP k w A x (fun _=>0)=0:=by
 unfold aP;have:∀k,dot k x (fun s=>dot w (A s) fun _=>0)=0:=by
  intro k
  induction k with
  |zero=>rfl
  |succ k ih=>
   have z:dot w (A k) (fun _=>0)=0:=by
    have:∀w,dot w (A k) (fun _=>0)=0:=by intro w;induction w with|zero=>rfl|succ w ih=>show dot w (A k) _+A k w*0=0;rw[ih];(first|lia|omega)
    exact this w
   show dot k x _+x k*dot w (A k) (fun _=>0)=0;rw[ih,z];(first|lia|omega)
 exact this k
def IR{k w N M X B:Nat}{A T U V f:Nat->Vc}{P:List Nat}(F:FS N M X B (tl k (glue w (fun i u=>T u i) U)) P f)(b:∀u i,u<w->i<k->T u i=aP k w A (U i) (V u)):∀p∈P,∀u,u<w->f p u=aP k w A (fun t=>f p (w+t)) (V u):=fun p hp u hu=>by
 refine Sp.ind (C:=fun v=>v u=aP k w A (fun t=>v (w+t)) (V u)) IQ.symm (fun a x y hx hy=>?_) (fun r hr=>?_) (F.fr p hp).sp
 ·show a*x u+y u=aP k w A (fun t=>a*x (w+t)+y (w+t)) (V u)
  rw[IP,<-hx,<-hy]
 ·obtain⟨i,hi,rfl⟩:=List.mem_map.mp hr
  show glue w (fun i u=>T u i) U i u=aP k w A (fun t=>glue w (fun i u=>T u i) U i (w+t)) (V u);rw[zQ hu,show(fun t=>glue w (fun i u=>T u i) U i (w+t))=U i from funext fun t=>eX];exact b u i hu (List.mem_range.mp hi)
def IS{k w N M X B:Nat}{A T U V f:Nat->Vc}{P:List Nat}(F:FS N M X B (tl w (glue k (fun u i=>T i u) V)) P f)(b:∀i u,i<k->u<w->T i u=aP k w A (U i) (V u)):∀p∈P,∀i,i<k->f p i=aP k w A (U i) (fun t=>f p (k+t)):=fun p hp i hi=>by
 refine Sp.ind (C:=fun v=>v i=aP k w A (U i) (fun t=>v (k+t))) Ob.symm (fun a x y hx hy=>?_) (fun r hr=>?_) (F.fr p hp).sp
 ·show a*x i+y i=aP k w A (U i) (fun t=>a*x (k+t)+y (k+t))
  rw[Oa,<-hx,<-hy]
 ·obtain⟨u,hu,rfl⟩:=List.mem_map.mp hr
  show glue k (fun u i=>T i u) V u i=aP k w A (U i) (fun t=>glue k (fun u i=>T i u) V u (k+t));rw[zQ hi,show(fun t=>glue k (fun u i=>T i u) V u (k+t))=V u from funext fun t=>eX];exact b i u hi (List.mem_range.mp hu)
structure Ker(n r g b:Nat)(W:Nat->Vc)(Q:Nat->Nat):Prop where
 qs:∀a c,a<c->c<n-r->Q a<Q c
 kz:∀a u,a<n-r->u<Q a->W (r+a) u=0
 kp:∀a,a<n-r->0<W (r+a) (Q a)
 kq:∀a c,a<c->c<n-r->0<=W (r+a) (Q c)/\W (r+a) (Q c)<W (r+c) (Q c)
 tq:∀i a,i<r->a<n-r->(W i (Q a)).natAbs<=g*(W (r+a) (Q a)).natAbs
 km:∀a,a<n-r->(W (r+a) (Q a)).natAbs<=b
structure E7(n r m:Nat)(S:Nat->Vc):Prop where
 tp:∀i,i<r->0<S i i
 tz:∀i j,i<r->i<j->j<m->S i j=0
 tl:∀i j,i<r->j<i->(S i j).natAbs<=(S i i).natAbs
 z:∀i u,r<=i->i<n->u<m->S i u=0
section
variable{n r m g b M:Nat}{S W:Nat->Vc}{Q:Nat->Nat}
def IT(hn:r<=n)(f:r<=m)(hg:1<=g)(H:E7 n r m S)(K:Ker n r g b W Q)(hb:g*b<=M)(l:∀i,i<r->(S i i).natAbs<=M):Tri n r m M g (glue m S W) (fun a=>m+Q a):=by
 refine⟨hg,hn,f,fun a c h1 h2=>by have:=K.qs a c h1 h2;show m+Q a<m+Q c;(first|lia|omega),fun a _=>Bb _ _,fun i hi=>by rw[zQ ω];exact H.tp i hi,fun i j hi h1 h2=>by rw[zQ h2];exact H.tz i j hi h1 h2,fun i j hi e=>by rw[zQ ω,zQ ω];exact H.tl i j hi e,fun i a hi d=>by rw[eX,eX];exact K.tq i a hi d,fun a u d hu=>?_,fun a d=>by rw[eX];exact K.kp a d,fun a c h1 h2=>by rw[eX,eX];exact K.kq a c h1 h2,fun i hi=>by rw[zQ ω];exact l i hi,fun a d=>by rw[eX];exact Ag (Ak _ (K.km a d)) hb⟩
 by_cases h:u<m
 ·rw[zQ h];exact H.z (r+a) u ω ω h
 ·rw[show u=m+(u-m) from ω,eX]
  exact K.kz a _ d (by have:u<m+Q a:=hu;(first|lia|omega))
end
def pls(r m:Nat)(Q:Nat->Nat)(i:Nat):Nat:=if i<r then i else m+Q (i-r)
def gS{r m:Nat}{Q:Nat->Nat}{i:Nat}(h:i<r):pls r m Q i=i:=if_pos h
def j9{r m:Nat}{Q:Nat->Nat}{a:Nat}:pls r m Q (r+a)=m+Q a:=by unfold pls;rw[if_neg ω,Nat.add_sub_cancel_left]
def E8{r m n:Nat}{Q:Nat->Nat}(h:r<=n):pl r n (fun a=>m+Q a)=(Ah n).map (pls r m Q):=by
 unfold pl;rw[Nat.min_eq_right h];apply AX
 ·simp;(first|lia|omega)
 ·intro i h1 h2
  rw[AW,AZ]
  by_cases hi:i<r
  ·rw[List.getElem_append_left (by simpa using hi),AZ,gS hi]
  ·rw[List.getElem_append_right (by simp;(first|lia|omega)),AW,AZ,A9]
   unfold pls;rw[if_neg hi]
section
variable{n r m g b M N X B:Nat}{S W f:Nat->Vc}{Q:Nat->Nat}{P:List Nat}
def IU(hn:r<=n)(o:r<=m)(K:Ker n r g b W Q)(R:IN n r m (glue m S W) f (fun a=>m+Q a)):Ker n r 1 b (fun i t=>f (pls r m Q i) (m+t)) Q/\(∀i,i<r->0<f (pls r m Q i) i)/\(∀i j,i<r->j<i->f (pls r m Q i) j=0)/\(∀i j,i<j->j<r->0<=f (pls r m Q i) j/\f (pls r m Q i) j<f (pls r m Q j) j)/\(∀i u,i<n->u<m->(r<=i\/r<=u)->f (pls r m Q i) u=0):=by
 refine⟨⟨K.qs,fun a u d hu=>?_,fun a d=>?_,fun a c h1 h2=>?_,fun i a hi d=>?_,fun a d=>?_⟩,fun i hi=>?_,fun i j hi l=>?_,fun i j h1 h2=>?_,fun i u hi hu h=>?_⟩
 ·show f (pls r m Q (r+a)) (m+u)=0
  rw[j9];exact R.qz a (m+u) d (by show m+u<m+Q a;(first|lia|omega))
 ·show 0<f (pls r m Q (r+a)) (m+Q a)
  rw[j9];exact R.qp a d
 ·show 0<=f (pls r m Q (r+a)) (m+Q c)/\f (pls r m Q (r+a)) (m+Q c)<f (pls r m Q (r+c)) (m+Q c)
  rw[j9,j9];exact R.qr a c h1 h2
 ·show(f (pls r m Q i) (m+Q a)).natAbs<=1*(f (pls r m Q (r+a)) (m+Q a)).natAbs
  rw[gS hi,j9];have:=R.ir i a hi d;have this:0<=f i (m+Q a)/\f i (m+Q a)<f (m+Q a) (m+Q a):=this;(first|lia|omega)
 ·show(f (pls r m Q (r+a)) (m+Q a)).natAbs<=b
  rw[j9];have h1:=R.qd a d;have h1:(f (m+Q a) (m+Q a)).natAbs<=(glue m S W (r+a) (m+Q a)).natAbs:=h1;rw[eX] at h1;exact Ag h1 (K.km a d)
 ·rw[gS hi];exact R.fp i hi
 ·rw[gS hi];exact R.fz i j hi l
 ·rw[gS (show i<r from ω),gS h2];exact R.fr i j h1 h2
 ·by_cases e:i<r
  ·rw[gS e];exact R.fo i u e ω hu
  ·rw[show i=r+(i-r) from ω,j9]
   exact R.qz (i-r) u ω (by show u<m+Q (i-r);(first|lia|omega))
end
def iB{g g':Nat->Vc}{k:Nat}(h:∀i,i<k->g i i=g' i i):tn g k=tn g' k:=by
 unfold tn;exact Ba fun i hi=>by rw[h i (List.mem_range.mp hi)]
structure LI(A:Nat->Vc)(k w r D bU bV g:Nat)(T U V:Nat->Vc)(Bn Bf:List Vc)(QU QV:Nat->Nat):Prop where
 rk:r<=k
 rw:r<=w
 g1:1<=g
 bl:∀u i,u<w->i<k->T u i=aP k w A (U i) (V u)
 bu:Both k (tl k U) Bn
 bv:Both w (tl w V) Bf
 ku:Ker k r g bU U QU
 kv:Ker w r 1 bV V QV
 tp:∀u,u<r->0<T u u
 tz:∀u i,u<r->i<u->T u i=0
 tr:∀u i,u<i->i<r->0<=T u i/\T u i<T i i
 to:∀u i,u<w->i<k->(r<=u\/r<=i)->T u i=0
 pd:∀m,m<=r->pr (tn T m)<=D
structure LM(A:Nat->Vc)(k w r D bU bV g:Nat)(S U V:Nat->Vc)(Bn Bf:List Vc)(QU QV:Nat->Nat):Prop where
 rk:r<=k
 rw:r<=w
 g1:1<=g
 bl:∀i u,i<k->u<w->S i u=aP k w A (U i) (V u)
 bu:Both k (tl k U) Bn
 bv:Both w (tl w V) Bf
 ku:Ker k r g bU U QU
 kv:Ker w r 1 bV V QV
 sl:E7 w r k (fun u i=>S i u)
 pd:∀m,m<=r->pr (tn S m)<=D
section
variable{A T U V S f:Nat->Vc}{k w r D bU bV g M N X B:Nat}{Bn Bf:List Vc}{QU QV:Nat->Nat}{P:List Nat}
def LI.slp(I:LI A k w r D bU bV g T U V Bn Bf QU QV):E7 k r w (fun i u=>T u i):=
 ⟨I.tp,fun i j hi h1 h2=>by
  by_cases h:j<r
  ·exact I.tz j i h h1
  ·exact I.to j i h2 (by have:=I.rk;(first|lia|omega)) (.inl ω),fun i j hi a=>by have:=I.tr j i a hi;show(T j i).natAbs<=(T i i).natAbs;(first|lia|omega),fun i u h1 h2 b=>I.to u i b h2 (.inr h1)⟩
def LI.diag_le(I:LI A k w r D bU bV g T U V Bn Bf QU QV){i:Nat}(hi:i<r):(T i i).natAbs<=D:=by
 have h1:=E5 (g:=T) (k:=i) fun j a=>I.tp j ω;have h2:=I.pd (i+1) ω;have b:=I.tp i hi;(first|lia|omega)
def LI.near_tri(I:LI A k w r D bU bV g T U V Bn Bf QU QV)(b:g*bU<=M)(c:D<=M):Tri k r w M g (glue w (fun i u=>T u i) U) (fun a=>w+QU a):=
 IT I.rk I.rw I.g1 I.slp I.ku b fun i hi=>Ag (I.diag_le hi) c
def E9(I:LI A k w r D bU bV g T U V Bn Bf QU QV){m:Nat}(a:m<=r):tn (glue w (fun i u=>T u i) U) m=tn T m:=iB fun i hi=>by rw[zQ (by have:=I.rw;(first|lia|omega))]
def LI.near_done(I:LI A k w r D bU bV g T U V Bn Bf QU QV)(Tr:Tri k r w M g (glue w (fun i u=>T u i) U) (fun a=>w+QU a))(F:FS N M X B (tl k (glue w (fun i u=>T u i) U)) P f):P=(Ah k).map (pls r w QU)/\LM A k w r D bU bV 1 (fun i=>f (pls r w QU i)) (fun i t=>f (pls r w QU i) (w+t)) V (lf k ((tl k (glue w (fun i u=>T u i) U)).map fun r=>shr f P r) Bn) Bf QU QV/\ (∀m,m<=r->pr (tn (fun i=>f (pls r w QU i)) m)<=pr (tn T m))/\((∃m,m<=r/\2*pr (tn (fun i=>f (pls r w QU i)) m)<=pr (tn T m))\/∀i,i<r->f (pls r w QU i) i=T i i/\∀j,j<r->j≠i->f (pls r w QU i) j=0):=by
 obtain⟨c,R⟩:=Tr.round F;rw[E8 I.rk] at c;obtain⟨q,n1,n2,s,d⟩:=IU I.rk I.rw I.ku R;have l:∀m,m<=r->tn (fun i=>f (pls r w QU i)) m=tn f m:=fun m b=>iB fun i hi=>by show f (pls r w QU i) i=f i i;rw[gS ω]
 have le:∀m,m<=r->pr (tn (fun i=>f (pls r w QU i)) m)<=pr (tn T m):=fun m b=>by rw[l m b,<-E9 I b];exact R.le m b
 refine⟨c,⟨I.rk,I.rw,Ae 1,fun i u hi hu=>?_,?_,I.bv,q,I.kv,⟨n1,fun u i hu h1 h2=>?_,fun u i hu hi=>?_,fun u i h1 h2 o=>?_⟩,fun m b=>Ag (le m b) (I.pd m b)⟩,le,?_⟩
 ·exact IR F I.bl _ (by rw[c];exact List.mem_map.mpr ⟨i,List.mem_range.mpr hi,rfl⟩) u hu
 ·have:=C0 F I.bu
  have e:(P.map fun p=>fun t=>f p (w+t))=tl k (fun i t=>f (pls r w QU i) (w+t)):=by rw[c,AV];rfl
  rw[e] at this;exact this
 ·show f (pls r w QU i) u=0
  by_cases h:i<r
  ·exact n2 i u h h1
  ·exact d i u h2 (by have:=I.rw;(first|lia|omega)) (.inl ω)
 ·show(f (pls r w QU i) u).natAbs<=(f (pls r w QU u) u).natAbs
  have:=s i u hi hu;(first|lia|omega)
 ·exact d i u o h2 (.inr h1)
 ·rcases R.hv with ⟨m,b,h⟩|h
  ·exact .inl ⟨m,b,by rw[l m b,<-E9 I b];exact h⟩
  ·refine .inr fun i hi=>?_
   obtain⟨h1,h2⟩:=h i hi;rw[zQ (by have:=I.rw;(first|lia|omega))] at h1;rw[gS hi];exact⟨h1,h2⟩
def LM.diag_le(I:LM A k w r D bU bV g S U V Bn Bf QU QV){i:Nat}(hi:i<r):(S i i).natAbs<=D:=by
 have h1:=E5 (g:=S) (k:=i) fun j b=>I.sl.tp j ω;have h2:=I.pd (i+1) ω;have a:=I.sl.tp i hi;have a:0<S i i:=a;(first|lia|omega)
def LM.far_tri(I:LM A k w r D bU bV g S U V Bn Bf QU QV)(c:bV<=M)(b:D<=M):Tri w r k M 1 (glue k (fun u i=>S i u) V) (fun a=>k+QV a):=
 IT I.rw I.rk (Ae 1) I.sl I.kv ω fun i hi=>Ag (I.diag_le hi) b
def LM.far_done(I:LM A k w r D bU bV g S U V Bn Bf QU QV)(Tr:Tri w r k M 1 (glue k (fun u i=>S i u) V) (fun a=>k+QV a))(F:FS N M X B (tl w (glue k (fun u i=>S i u) V)) P f):P=(Ah w).map (pls r k QV)/\LI A k w r D bU bV g (fun u=>f (pls r k QV u)) U (fun u t=>f (pls r k QV u) (k+t)) Bn (lf w ((tl w (glue k (fun u i=>S i u) V)).map fun r=>shr f P r) Bf) QU QV/\ (∀m,m<=r->pr (tn (fun u=>f (pls r k QV u)) m)<=pr (tn S m))/\((∃m,m<=r/\2*pr (tn (fun u=>f (pls r k QV u)) m)<=pr (tn S m))\/∀i,i<r->f (pls r k QV i) i=S i i/\∀j,j<r->j≠i->f (pls r k QV i) j=0):=by
 obtain⟨c,R⟩:=Tr.round F;rw[E8 I.rw] at c;obtain⟨o,n1,n2,q,s⟩:=IU I.rw I.rk I.kv R;have d:∀m,m<=r->tn (glue k (fun u i=>S i u) V) m=tn S m:=fun m b=>iB fun i hi=>by rw[zQ (by have:=I.rk;(first|lia|omega))]
 have l:∀m,m<=r->tn (fun u=>f (pls r k QV u)) m=tn f m:=fun m b=>iB fun i hi=>by show f (pls r k QV i) i=f i i;rw[gS ω]
 have le:∀m,m<=r->pr (tn (fun u=>f (pls r k QV u)) m)<=pr (tn S m):=fun m b=>by rw[l m b,<-d m b];exact R.le m b
 refine⟨c,⟨I.rk,I.rw,I.g1,fun u i hu hi=>?_,I.bu,?_,I.ku,o,n1,n2,q,s,fun m b=>Ag (le m b) (I.pd m b)⟩,le,?_⟩
 ·exact IS F I.bl _ (by rw[c];exact List.mem_map.mpr ⟨u,List.mem_range.mpr hu,rfl⟩) i hi
 ·have:=C0 F I.bv
  have e:(P.map fun p=>fun t=>f p (k+t))=tl w (fun u t=>f (pls r k QV u) (k+t)):=by rw[c,AV];rfl
  rw[e] at this;exact this
 ·rcases R.hv with ⟨m,b,h⟩|h
  ·exact .inl ⟨m,b,by rw[l m b,<-d m b];exact h⟩
  ·refine .inr fun i hi=>?_
   obtain⟨h1,h2⟩:=h i hi;rw[zQ (by have:=I.rk;(first|lia|omega))] at h1;rw[gS hi];exact⟨h1,h2⟩
end
def IV{U:Nat->Vc}{c:Vc}{i j t:Nat}(ne:i≠j):∀k,sm (put U i fun t=>U i t+U j t) (fun a=>if a=j then c j-c i else c a) k t=sm U c k t+(if i<k then c i*U j t else 0)-(if j<k then c i*U j t else 0)
 |0=>by show(0:Int)=0+(if i<0 then _ else 0)-(if j<0 then _ else 0);rw[if_neg ω,if_neg ω];rfl
 |k+1=>by
  show sm _ _ k t+(if k=j then c j-c i else c k)*put U i (fun t=>U i t+U j t) k t=sm U c k t+c k*U k t+_-_;rw[IV ne k]
  by_cases e1:k=i
  ·subst e1
   rw[if_neg (show ¬k<k from ω),if_neg ne,zK,if_pos (show k<k+1 from ω),Int.mul_add]
   by_cases h:j<k
   ·rw[if_pos h,if_pos (show j<k+1 from ω)];(first|lia|omega)
   ·rw[if_neg h,if_neg (show ¬j<k+1 from ω)];(first|lia|omega)
  ·rw[dh e1]
   by_cases e2:k=j
   ·subst e2
    rw[if_pos rfl,if_neg (show ¬k<k from ω),if_pos (show k<k+1 from ω),Int.sub_mul]
    by_cases h:i<k
    ·rw[if_pos h,if_pos (show i<k+1 from ω)];(first|lia|omega)
    ·rw[if_neg h,if_neg (show ¬i<k+1 from ω)];(first|lia|omega)
   ·rw[if_neg e2]
    have a1:(if i<k then c i*U j t else 0)=(if i<k+1 then c i*U j t else 0):=by
     by_cases h:i<k
     ·rw[if_pos h,if_pos ω]
     ·rw[if_neg h,if_neg ω]
    have a2:(if j<k then c i*U j t else 0)=(if j<k+1 then c i*U j t else 0):=by
     by_cases h:j<k
     ·rw[if_pos h,if_pos ω]
     ·rw[if_neg h,if_neg ω]
    rw[a1,a2];(first|lia|omega)
def C1{n i:Nat}{W:Nat->Vc}(h:i<n):(tl n W)[i]?=some (W i):=by unfold tl;rw[Aj,AQ h];rfl
def iF{n:Nat}{W:Nat->Vc}:(tl n W).length=n:=by unfold tl;simp
def C2{k:Nat}{U C:Nat->Vc}:Both k (tl k U) (tl k C)↔(∀s t,s<k->t<k->sm U (fun a=>C a s) k t=dl s t)/\∀i j,i<k->j<k->dot k (U i) (C j)=dl i j:=by
 have e:∀s t,cmb ((tl k C).map fun b=>b s) (tl k U) t=sm U (fun a=>C a s) k t:=fun s t=>by
  have:=CZ (ρ:=U) (c:=fun a=>C a s) t k;rw[<-this];unfold tl lst;rw[AV];rfl
 constructor
 ·intro D
  exact⟨fun s t g h=>by rw[<-e];exact D.a.d s t g h,fun i j hi f=>D.b i j _ _ (C1 hi) (C1 f)⟩
 ·rintro⟨h1,h2⟩
  refine⟨⟨iF,iF,fun s t g h=>by rw[e];exact h1 s t g h⟩,fun i j u c hu hc=>?_⟩;have hi:i<k:=by have:=(List.getElem?_eq_some_iff.mp hu).1;rwa [iF] at this
  have f:j<k:=by have:=(List.getElem?_eq_some_iff.mp hc).1;rwa [iF] at this
  rw[C1 hi] at hu;rw[C1 f] at hc;cases hu;cases hc;exact h2 i j hi f
def Both.add{k:Nat}{U C:Nat->Vc}(D:Both k (tl k U) (tl k C)){i j:Nat}(hi:i<k)(p:j<k)(ne:i≠j):Both k (tl k (put U i fun t=>U i t+U j t)) (tl k (put C j fun s=>C j s-C i s)):=by
 rw[C2] at D ⊢;obtain⟨h1,h2⟩:=D;refine⟨fun s t q r=>?_,fun a b d hb=>?_⟩
 ·have e:(fun a=>put C j (fun s=>C j s-C i s) a s)=fun a=>if a=j then C j s-C i s else C a s:=funext fun a=>by
   unfold put
   by_cases h:a=j
   ·rw[if_pos h,if_pos h]
   ·rw[if_neg h,if_neg h]
  rw[e];have:=IV (U:=U) (c:=fun a=>C a s) (t:=t) ne k;rw[this,if_pos hi,if_pos p,h1 s t q r];(first|lia|omega)
 ·-- by eI two rows
  have l:∀{x:Vc},dot k (fun t=>U i t+U j t) x=dot k (U i) x+dot k (U j) x:=fun{x}=>by
   have:=EZ (k:=k) (a:=U i) (a':=U j) (b:=x) (x:=1) (y:=1);rw[Int.one_mul,Int.one_mul] at this;rw[<-this];exact zE fun t _=>ω
  have f:∀{x:Vc},dot k x (fun s=>C j s-C i s)=dot k x (C j)-dot k x (C i):=fun{x}=>by
   have:=tI (k:=k) (a:=x) (b:=C i) (b':=C j) (x:=-1);rw[show dot k x (C j)-dot k x (C i)=-1*dot k x (C i)+dot k x (C j) from ω,<-this];exact zn fun t _=>ω
  by_cases o:a=i
  ·subst o
   rw[zK]
   by_cases g:b=j
   ·subst g
    rw[zK,l,f,f,h2 a b d hb,h2 a a d d,h2 b b hb hb,h2 b a hb d];unfold dl;rw[if_neg ne,if_pos rfl,if_pos rfl,if_neg (Ne.symm ne)];(first|lia|omega)
   ·rw[dh g,l,h2 a b d hb,h2 j b p hb]
    unfold dl;rw[if_neg (show ¬j=b from fun z=>g z.symm)];(first|lia|omega)
  ·rw[dh o]
   by_cases g:b=j
   ·subst g
    rw[zK,f,h2 a b d hb,h2 a i d hi];unfold dl;rw[if_neg o];(first|lia|omega)
   ·rw[dh g,h2 a b d hb]
def Oc{A S U V f:Nat->Vc}{k w r D bU bV g M N X B:Nat}{Bn Bf:List Vc}{QU QV:Nat->Nat}{P:List Nat}(I:LM A k w r D bU bV g S U V Bn Bf QU QV)(Tr:Tri w r k M 1 (glue k (fun u i=>S i u) V) (fun a=>k+QV a))(F:FS N M X B (tl w (glue k (fun u i=>S i u) V)) P f)(h:∀i,i<r->f (pls r k QV i) i=S i i/\∀j,j<r->j≠i->f (pls r k QV i) j=0){i u:Nat}(hi:i<r)(hu:u<r):S i i ∣ S i u:=by
 obtain⟨l,R⟩:=Tr.round F;have o:glue k (fun u i=>S i u) V u∈tl w (glue k (fun u i=>S i u) V):=List.mem_map.mpr ⟨u,List.mem_range.mpr (by have:=I.rw;(first|lia|omega)),rfl⟩;have sp:=F.gen _ o;have e:glue k (fun u i=>S i u) V u i=S i u:=zQ (by have:=I.rk;(first|lia|omega));rw[<-e];refine Sp.ind (C:=fun v=>S i i ∣ v i) (Int.dvd_zero _) (fun a x y hx hy=>Int.dvd_add (Int.dvd_trans hx (Int.dvd_mul_left a _)) hy) (fun v d=>?_) sp;obtain⟨p,hp,rfl⟩:=List.mem_map.mp d;rw[l,E8 I.rw] at hp;obtain⟨j,c,rfl⟩:=List.mem_map.mp hp;have c:=List.mem_range.mp c
 by_cases b:j<r
 ·by_cases e2:i=j
  ·subst e2;rw[(h i hi).1];exact Int.dvd_refl _
  ·rw[(h j b).2 i hi e2];exact Int.dvd_zero _
 ·rw[show j=r+(j-r) from ω,j9]
  rw[R.qz (j-r) i ω (by show i<k+QV (j-r);have:=I.rk;(first|lia|omega))];exact Int.dvd_zero _
def b4(U:Nat->Vc)(r:Nat):Nat->Nat->Vc
 |0=>U
 |n+1=>put (b4 U r n) (r-2-n) fun t=>b4 U r n (r-2-n) t+b4 U r n (r-1-n) t
def gh(C:Nat->Vc)(r:Nat):Nat->Nat->Vc
 |0=>C
 |n+1=>put (gh C r n) (r-1-n) fun s=>gh C r n (r-1-n) s-gh C r n (r-2-n) s
def ss(U:Nat->Vc)(r:Nat):Nat->Nat->Vc
 |0,_=>fun _=>0
 |n+1,i=>fun t=>U i t+ss U r n (i+1) t
section
variable{U C:Nat->Vc}{r k:Nat}
def E_:∀(n:Nat),n+1<=r->∀i,b4 U r n i=if r-1-n<=i/\i<r then ss U r (r-i) i else U i
 |0,h,i=>by
  show U i=_
  by_cases e:i=r-1
  ·rw[if_pos ω,show r-i=1 from ω]
   exact funext fun t=>by show U i t=U i t+0;(first|lia|omega)
  ·rw[if_neg ω]
 |n+1,h,i=>by
  have a:=E_ n ω;show put (b4 U r n) (r-2-n) (fun t=>b4 U r n (r-2-n) t+b4 U r n (r-1-n) t) i=_
  by_cases e:i=r-2-n
  ·rw[e,zK,if_pos ω,a (r-2-n),a (r-1-n),if_neg ω,if_pos ω]
   have e1:r-(r-2-n)=n+1+1:=ω
   have e2:r-(r-1-n)=n+1:=ω
   rw[e1,e2];exact funext fun t=>by
    show U (r-2-n) t+ss U r (n+1) (r-1-n) t=U (r-2-n) t+ss U r (n+1) (r-2-n+1) t;rw[show r-2-n+1=r-1-n from ω]
  ·rw[dh e,a i]
   by_cases h2:r-1-n<=i/\i<r
   ·rw[if_pos h2,if_pos ω]
   ·rw[if_neg h2,if_neg ω]
def ji(h:1<=r)(i:Nat):b4 U r (r-1) i=if i<r then ss U r (r-i) i else U i:=by
 rw[E_ (r-1) ω i]
 by_cases e:i<r
 ·rw[if_pos ω,if_pos e]
 ·rw[if_neg ω,if_neg e]
def IW(hr:r<=k)(D:Both k (tl k U) (tl k C)):∀n,n+1<=r->Both k (tl k (b4 U r n)) (tl k (gh C r n))
 |0,_=>D
 |n+1,h=>(IW hr D n ω).add (i:=r-2-n) (j:=r-1-n) ω ω ω
def E'{u K:Nat}:∀(n i:Nat),(∀j,i<=j->j<i+n->(U j u).natAbs<=K)->(ss U r n i u).natAbs<=n*K
 |0,_,_=>AB _
 |n+1,i,h=>by
  have h1:=E' (u:=u) n (i+1) fun j h1 h2=>h j ω ω;have h2:=h i (Ae _) ω;have a:=Int.natAbs_add_le (U i u) (ss U r n (i+1) u);show(U i u+ss U r n (i+1) u).natAbs<=(n+1)*K;rw[Nat.add_mul];(first|lia|omega)
def IX{w:Nat}{A:Nat->Vc}{y:Vc}:∀(n i:Nat),aP k w A (ss U r n i) y=ss (fun i _=>aP k w A (U i) y) r n i 0
 |0,_=>IQ
 |n+1,i=>by
  show aP k w A (fun t=>U i t+ss U r n (i+1) t) y=aP k w A (U i) y+ss (fun i _=>aP k w A (U i) y) r n (i+1) 0;rw[<-IX n (i+1)];have:=IP (k:=k) (w:=w) (A:=A) (a:=1) (x:=U i) (x':=ss U r n (i+1)) (y:=y);rw[Int.one_mul] at this;rw[<-this]
  congr 1
  exact funext fun t=>ω
def Fh{c:Nat->Int}{u:Nat}:∀(n i:Nat),(∀j,i<=j->j<i+n->j≠u->c j=0)->ss (fun i _=>c i) r n i 0=if i<=u/\u<i+n then c u else 0
 |0,i,_=>by show(0:Int)=_;rw[if_neg ω]
 |n+1,i,h=>by
  show c i+ss (fun i _=>c i) r n (i+1) 0=_;rw[Fh n (i+1) fun j h1 h2 a=>h j ω ω a]
  by_cases e:i=u
  ·subst e;rw[if_neg ω,if_pos ω];(first|lia|omega)
  ·rw[h i (Ae _) ω e]
   by_cases h2:i+1<=u/\u<i+1+n
   ·rw[if_pos h2,if_pos ω];(first|lia|omega)
   ·rw[if_neg h2,if_neg ω];(first|lia|omega)
end
section
variable{A T U V:Nat->Vc}{k w r D bU bV g:Nat}{Bn Bf:List Vc}{QU QV:Nat->Nat}{C:Nat->Vc}
def LI.slid(I:LI A k w r D bU bV g T U V (tl k C) Bf QU QV)(hr:1<=r)(hd:∀u i,u<r->i<r->u≠i->T u i=0):LM A k w r D bU bV (r*g) (fun i u=>aP k w A (b4 U r (r-1) i) (V u)) (b4 U r (r-1)) V (tl k (gh C r (r-1))) Bf QU QV/\∀i u,i<k->u<w->aP k w A (b4 U r (r-1) i) (V u)=if i<=u/\u<r then T u u else 0:=by
 have rk:=I.rk;have p:=I.rw;have val:∀i u,i<k->u<w->aP k w A (b4 U r (r-1) i) (V u)=if i<=u/\u<r then T u u else 0:=fun i u hi hu=>by
  rw[ji hr]
  by_cases h:i<r
  ·rw[if_pos h,IX]
   have e:ss (fun i _=>aP k w A (U i) (V u)) r (r-i) i 0=ss (fun i _=>if i<k then T u i else aP k w A (U i) (V u)) r (r-i) i 0:=by
    congr 1
    exact funext fun j=>funext fun _=>by
     by_cases f:j<k
     ·rw[if_pos f,I.bl u j hu f]
     ·rw[if_neg f]
   rw[e,Fh (u:=u) (r-i) i fun j h1 h2 d=>by
    rw[if_pos ω]
    by_cases l:u<r
    ·exact hd u j l ω (Ne.symm d)
    ·exact I.to u j hu ω (.inl ω)]
   by_cases h2:i<=u/\u<r
   ·rw[if_pos ω,if_pos h2,if_pos ω]
   ·rw[if_neg ω,if_neg h2]
  ·rw[if_neg h,if_neg ω,<-I.bl u i hu hi]
   exact I.to u i hu hi (.inr ω)
 have dg:∀i,i<r->aP k w A (b4 U r (r-1) i) (V i)=T i i:=fun i hi=>by rw[val i i ω ω,if_pos ⟨Ae _,hi⟩]
 refine⟨⟨rk,p,Nat.mul_pos hr I.g1,fun i u _ _=>rfl,IW rk I.bu (r-1) ω,I.bv,⟨I.ku.qs,fun a u b hu=>?_,fun a b=>?_,fun a c h1 h2=>?_,fun i a hi b=>?_,fun a b=>?_⟩,I.kv,⟨fun u hu=>?_,fun u i hu h1 h2=>?_,fun u i hu hi=>?_,fun u i h1 h2 d=>?_⟩,fun m o=>?_⟩,val⟩
 ·rw[ji hr,if_neg ω];exact I.ku.kz a u b hu
 ·rw[ji hr,if_neg ω];exact I.ku.kp a b
 ·rw[ji hr,ji hr,if_neg ω,if_neg ω];exact I.ku.kq a c h1 h2
 ·rw[ji hr,ji hr,if_pos hi,if_neg ω]
  have:=E' (U:=U) (r:=r) (u:=QU a) (K:=g*(U (r+a) (QU a)).natAbs) (r-i) i fun j h1 h2=>I.ku.tq j a ω b;refine Ag this ?_;rw[AN];exact Al _ ω
 ·rw[ji hr,if_neg ω];exact I.ku.km a b
 ·show 0<aP k w A (b4 U r (r-1) u) (V u)
  rw[dg u hu];exact I.tp u hu
 ·show aP k w A (b4 U r (r-1) i) (V u)=0
  rw[val i u h2 ω,if_neg ω]
 ·show(aP k w A (b4 U r (r-1) i) (V u)).natAbs<=(aP k w A (b4 U r (r-1) u) (V u)).natAbs
  rw[dg u hu,val i u ω ω,if_pos ω];exact Ae _
 ·show aP k w A (b4 U r (r-1) i) (V u)=0
  rw[val i u d h2,if_neg ω]
 ·have e:tn (fun i u=>aP k w A (b4 U r (r-1) i) (V u)) m=tn T m:=iB fun i hi=>dg i ω
  rw[e];exact I.pd m o
end
def IY{f:Nat->Vc}:∀{P:List Nat}{v:Vc}{p:Nat},Ech P f->P.Pairwise (·<·)->Sp (P.map f) v->(∀u,u<p->v u=0)->v p≠0->p∈P
 |[],v,p,_,_,⟨c,hc,e⟩,_,hp=>by
  refine absurd ?_ hp;rw[e];cases c<;>rfl
 |q::P,v,p,h,hs,⟨c,hc,e⟩,hz,hp=>by
  cases c with
  |nil=>simp at hc
  |cons a c=>
   rw[Be] at hs;have eq:v q=a*f q q:=by
    rw[e];show a*f q q+cmb c (P.map f) q=a*f q q;rw[zJ c (P.map f) fun v i=>by
     obtain⟨r,hr,rfl⟩:=List.mem_map.mp i;exact h.z r (.tail _ hr) q (hs.1 r hr)]
    (first|lia|omega)
   have b:=h.pos q (.head _)
   by_cases d:a=0
   ·refine .tail _ (IY (v:=v) (h.sub fun r hr=>.tail _ hr) hs.2 ⟨c,by simpa using hc,fun u=>?_⟩ hz hp)
    rw[e];show a*f q u+cmb c (P.map f) u=_;rw[d];(first|lia|omega)
   ·have hq:v q≠0:=by rw[eq];exact Int.mul_ne_zero d ω
    have h1:p<=q:=by
     rcases Bh q p with g|g
     ·exact absurd (hz q g) hq
     ·exact g
    have h2:q<=p:=by
     rcases Bh p q with g|g
     ·refine absurd ?_ hp
      rw[e];refine zJ _ _ fun x hx=>?_;obtain⟨r,hr,rfl⟩:=List.mem_map.mp hx;rcases List.mem_cons.mp hr with rfl|hr
      ·exact h.z r (.head _) p g
      ·exact h.z r (.tail _ hr) p (by have:=hs.1 r hr;(first|lia|omega))
     ·exact g
    rw[show p=q from ω];exact .head _
def alone{Λ:Vc->Prop}{L:Nat->Vc}{r k:Nat}(T:Lt Λ)(hk:r<=k)(p:∀i,i<r->Λ (L i))(q:∀i,i<r->0<L i i)(u:∀i j,i<r->i<j->j<k->L i j=0):∀j,j<r->∃v,Λ v/\v j≠0/\∀i,i<k->i≠j->v i=0:=by
 intro j
 induction j using Nat.strongRecOn with
 |_ j ih=>
  intro a;have step:∀n,n<=j->∃v,Λ v/\v j≠0/\(∀i,i<n->v i=0)/\∀i,j<i->i<k->v i=0:=by
   intro n
   induction n with
   |zero=>intro _;exact⟨L j,p j a,by have:=q j a;(first|lia|omega),fun i hi=>absurd hi (Nat.not_lt_zero _),fun i h1 h2=>u j i a h1 h2⟩
   |succ n ihn=>
    intro hn;obtain⟨v,b,c,d,f⟩:=ihn ω;obtain⟨x,x1,x2,g⟩:=ih n ω ω;have l:=T.s (-(x n)) T.z b;have o:=T.s (v n) l x1;refine⟨_,o,?_,fun i hi=>?_,fun i h1 h2=>?_⟩
    ·show(0 - -(x n)*v j)-v n*x j≠0
     rw[g j ω ω,Int.neg_mul];have:=Int.mul_ne_zero x2 c;(first|lia|omega)
    ·show(0 - -(x n)*v i)-v n*x i=0
     rw[Int.neg_mul]
     by_cases e:i=n
     ·subst e;rw[Bj (x i)];(first|lia|omega)
     ·rw[d i ω,g i ω e];(first|lia|omega)
    ·show(0 - -(x n)*v i)-v n*x i=0
     rw[f i h1 h2,g i h2 ω];(first|lia|omega)
  obtain⟨v,b,c,d,f⟩:=step j (Ae _);refine⟨v,b,c,fun i hi ne=>?_⟩;rcases Bh i j with h|h
  ·exact d i h
  ·exact f i ω hi
def un:Nat->Vc:=fun i t=>dl i t
def C3{k i:Nat}{g:Vc}(h:i<k):dot k (un i) g=g i:=by
 have:∀n,n<=k->dot n (un i) g=if i<n then g i else 0:=by
  intro n
  induction n with
  |zero=>intro _;rw[if_neg ω];rfl
  |succ n ih=>
   intro hn;show dot n (un i) g+dl i n*g n=_;rw[ih ω]
   by_cases e:i=n
   ·subst e;rw[if_neg ω,if_pos ω];unfold dl;rw[if_pos rfl];(first|lia|omega)
   ·unfold dl
    rw[if_neg e]
    by_cases h2:i<n
    ·rw[if_pos h2,if_pos ω];(first|lia|omega)
    ·rw[if_neg h2,if_neg ω];(first|lia|omega)
 rw[this k (Ae _),if_pos h]
def Fj(k:Nat):Both k (tl k un) (tl k un):=by
 rw[C2];refine⟨fun s t b c=>?_,fun i j hi d=>?_⟩
 ·have:∀n,n<=k->sm un (fun a=>un a s) n t=if s<n then dl s t else 0:=by
   intro n
   induction n with
   |zero=>intro _;rw[if_neg ω];rfl
   |succ n ih=>
    intro hn;show sm un (fun a=>un a s) n t+dl n s*dl n t=_;rw[ih ω]
    by_cases e:n=s
    ·subst e;rw[if_neg ω,if_pos ω];unfold dl;rw[if_pos rfl];(first|lia|omega)
    ·have z:dl n s=0:=by unfold dl;rw[if_neg e]
     rw[z]
     by_cases h2:s<n
     ·rw[if_pos h2,if_pos ω];(first|lia|omega)
     ·rw[if_neg h2,if_neg ω];(first|lia|omega)
  rw[this k (Ae _),if_pos b]
 ·rw[C3 hi]
  show dl j i=dl i j;unfold dl
  by_cases e:i=j
  ·rw[if_pos e,if_pos e.symm]
  ·rw[if_neg e,if_neg (fun z=>e z.symm)]
def C4{k w i u:Nat}{A:Nat->Vc}(hi:i<k)(hu:u<w):aP k w A (un i) (un u)=A i u:=by
 unfold aP;rw[C3 hi];have:dot w (A i) (un u)=dot w (A i) (fun s=>dl s u):=zn fun t _=>by
  show dl u t=dl t u;unfold dl
  by_cases e:u=t
  ·rw[if_pos e,if_pos e.symm]
  ·rw[if_neg e,if_neg (fun z=>e z.symm)]
 rw[this];exact E1 hu
def pp(P:List Nat)(i:Nat):Nat:=P.getD i 0
section
variable{P:List Nat}{n:Nat}
def oy(a:P.length=n){i:Nat}(h:i<n):pp P i∈P:=by unfold pp;rw[Ab,Ac ω];exact AI _
def Od(a:P.length=n){p:Nat}(h:p∈P):∃i,i<n/\pp P i=p:=by
 obtain⟨i,hi,rfl⟩:=Bg h;exact⟨i,ω,by unfold pp;rw[Ab,Ac hi];rfl⟩
def g0(b:P.length=n)(a:P.Pairwise (·<·)){i j:Nat}(h:i<j)(c:j<n):pp P i<pp P j:=by
 unfold pp;rw[Ab,Ab,Ac ω,Ac ω];exact List.pairwise_iff_getElem.mp a i j ω ω h
def Fn(a:P.length=n):P=(Ah n).map (pp P):=by
 apply AX
 ·simp[a]
 ·intro i h1 h2
  rw[AW,AZ];unfold pp;rw[Ab,Ac h1];rfl
def cut(m:Nat)(P:List Nat):Nat:=(P.filter fun p=>decide (p<m)).length
def Fq(d:P.Pairwise (·<·)){m:Nat}(f:P.length=n):cut m P<=n/\(∀i,i<cut m P->pp P i<m)/\∀i,cut m P<=i->i<n->m<=pp P i:=by
 have:∀P:List Nat,P.Pairwise (·<·)->cut m P<=P.length/\(∀i,i<cut m P->pp P i<m)/\∀i,cut m P<=i->i<P.length->m<=pp P i:=by
  intro P
  induction P with
  |nil=>intro _;exact⟨Ae _,fun i hi=>absurd hi (Nat.not_lt_zero _),fun i _ hi=>absurd hi (Nat.not_lt_zero _)⟩
  |cons p P ih=>
   intro d;rw[Be] at d;obtain⟨a,b,c⟩:=ih d.2
   by_cases h:p<m
   ·have e:cut m (p::P)=cut m P+1:=by unfold cut;rw[List.filter_cons,if_pos (decide_eq_true h)];rfl
    rw[e,AO];refine⟨ω,fun i hi=>?_,fun i h1 h2=>?_⟩
    ·cases i with
     |zero=>exact h
     |succ i=>exact b i ω
    ·cases i with
     |zero=>(first|lia|omega)
     |succ i=>exact c i ω ω
   ·have e:cut m (p::P)=0:=by
     unfold cut;rw[List.filter_cons,if_neg (by simpa using h),List.filter_eq_nil_iff.mpr fun q hq=>?_]
     ·rfl
     ·have:=d.1 q hq
      simp;(first|lia|omega)
    rw[e];refine⟨AB _,fun i hi=>absurd hi (Nat.not_lt_zero _),fun i _ h2=>?_⟩;cases i with
    |zero=>exact Nat.le_of_not_lt h
    |succ i=>
     rw[AO] at h2;have:pp P i∈P:=oy rfl ω;have:=d.1 _ this;show m<=pp P i;(first|lia|omega)
 have h:=this P d;rw[f] at h;exact h
end
def Oe(a b:List Nat)(h:∀t∈b,1<=t):pr a<=pr (a++b):=by
 rw[tH];have:1<=pr b:=by
  clear a
  induction b with
  |nil=>exact Ae _
  |cons t b ih=>exact nY (h t (.head _)) (ih fun x hx=>h x (.tail _ hx))
 exact Nat.le_mul_of_pos_right _ this
section
variable{k w N M X B:Nat}{A f:Nat->Vc}{P:List Nat}
structure N0(A:Nat->Vc)(k w r b:Nat)(S U:Nat->Vc)(Bn:List Vc)(Q q:Nat->Nat):Prop where
 rk:r<=k
 rw:r<=w
 bl:∀i u,i<k->u<w->S i u=aP k w A (U i) (un u)
 bu:Both k (tl k U) Bn
 ku:Ker k r 1 b U Q
 z:∀i u,r<=i->i<k->u<w->S i u=0
 qw:∀i,i<r->q i<w
 ql:∀i j,i<j->j<r->q i<q j
 sz:∀i u,i<r->u<q i->S i u=0
 sp:∀i,i<r->0<S i (q i)
def Of(F:FS N M X B (tl k (glue w A un)) P f):N0 A k w (cut w P) B (fun i=>f (pp P i)) (fun i t=>f (pp P i) (w+t)) (lf k ((tl k (glue w A un)).map fun r=>shr f P r) (tl k un)) (fun a=>pp P (cut w P+a)-w) (pp P):=by
 have d:P.length=k:=by rw[F.len];exact iF
 obtain⟨c1,c2,h⟩:=Fq (m:=w) F.srt d;have b:∀{i},i<k->pp P i∈P:=fun hi=>oy d hi;have l:∀i,i<k->i<=pp P i:=by
  intro i
  induction i with
  |zero=>intro _;exact AB _
  |succ i ih=>intro hi;have:=ih ω;have:=g0 d F.srt (show i<i+1 from ω) hi;(first|lia|omega)
 have hw:cut w P<=w:=by
  rcases Nat.eq_zero_or_pos (cut w P) with z|z
  ·(first|lia|omega)
  ·have h1:=c2 (cut w P-1) ω
   have h2:=l (cut w P-1) ω;(first|lia|omega)
 have hq:∀a,a<k-cut w P->w+(pp P (cut w P+a)-w)=pp P (cut w P+a):=fun a g=>by have:=h (cut w P+a) ω ω;(first|lia|omega)
 refine⟨c1,hw,fun i u hi hu=>?_,?_,⟨fun a c h1 h2=>?_,fun a u g hu=>?_,fun a g=>?_,fun a c h1 h2=>?_,fun i a hi g=>?_,fun a g=>?_⟩,fun i u h1 h2 o=>F.ech.z _ (b h2) u (by have:=h i h1 h2;(first|lia|omega)),c2,fun i j h1 h2=>g0 d F.srt h1 ω,fun i u hi hu=>F.ech.z _ (b ω) u hu,fun i hi=>F.ech.pos _ (b ω)⟩
 ·refine IR (T:=fun u i=>A i u) (U:=un) (V:=un) F (fun u i hu hi=>(C4 hi hu).symm) _ (b hi) u hu
 ·have:=C0 F (Fj k)
  have e:(P.map fun p=>fun t=>f p (w+t))=tl k (fun i t=>f (pp P i) (w+t)):=by
   have:=Fn d
   conv=>lhs;rw[this]
   rw[AV];rfl
  rw[e] at this;exact this
 ·have:=g0 d F.srt (show cut w P+a<cut w P+c from ω) ω
  have:=h (cut w P+a) ω ω;show pp P (cut w P+a)-w<pp P (cut w P+c)-w;(first|lia|omega)
 ·have hu:u<pp P (cut w P+a)-w:=hu
  exact F.ech.z _ (b ω) (w+u) ω
 ·show 0<f (pp P (cut w P+a)) (w+(pp P (cut w P+a)-w))
  rw[hq a g];exact F.ech.pos _ (b ω)
 ·show 0<=f (pp P (cut w P+a)) (w+(pp P (cut w P+c)-w))/\f (pp P (cut w P+a)) (w+(pp P (cut w P+c)-w))<f (pp P (cut w P+c)) (w+(pp P (cut w P+c)-w))
  rw[hq c h2];exact F.red _ (b ω) _ (b ω) (g0 d F.srt ω ω)
 ·show(f (pp P i) (w+(pp P (cut w P+a)-w))).natAbs<=1*(f (pp P (cut w P+a)) (w+(pp P (cut w P+a)-w))).natAbs
  rw[hq a g];have:=F.red _ (b (show i<k from ω)) _ (b (show cut w P+a<k from ω)) (g0 d F.srt ω ω);(first|lia|omega)
 ·show(f (pp P (cut w P+a)) (w+(pp P (cut w P+a)-w))).natAbs<=B
  rw[hq a g];exact F.piv _ (b ω)
def Og(g:1<=M)(hi:i' (tl k (glue w A un)))(hb:∀r∈tl k (glue w A un),∀u,(r u).natAbs<=M)(F:FS N M X B (tl k (glue w A un)) P f):∀m,m<=cut w P->pr ((Ah m).map fun i=>(f (pp P i) (pp P i)).toNat)<=(2*(k*M)+1) ^ k:=fun m j=>by
 have b:P.length=k:=by rw[F.len];exact iF
 obtain⟨c1,_,_⟩:=Fq (m:=w) F.srt b;have h:=N6 g hi F.ech F.srt F.gen F.len fun r hr p _=>hb r hr p;rw[iF] at h;have e:(P.map fun p=>(f p p).toNat)=((Ah m).map fun i=>(f (pp P i) (pp P i)).toNat)++((Ah (k-m)).map fun a=>(f (pp P (m+a)) (pp P (m+a))).toNat):=by
  have:=Fn b
  conv=>lhs;rw[this]
  rw[AV];apply AX
  ·simp;(first|lia|omega)
  ·intro i h1 h2
   rw[AW,AZ]
   by_cases hi:i<m
   ·rw[List.getElem_append_left (by simpa using hi),AW,AZ];rfl
   ·rw[List.getElem_append_right (by simp;(first|lia|omega)),AW,AZ,Aa,A9,show m+(i-m)=i from ω];rfl
 rw[e] at h;refine Ag (Oe _ _ fun t d=>?_) h;obtain⟨a,c,rfl⟩:=List.mem_map.mp d;have c:=List.mem_range.mp c;have:=F.ech.pos _ (oy b (show m+a<k from ω));(first|lia|omega)
def Oh{r b D X M2 X2 B2:Nat}{S U f2:Nat->Vc}{Bn:List Vc}{Q q:Nat->Nat}{P2:List Nat}(I:N0 A k w r b S U Bn Q q)(P:∀m,m<=r->pr ((Ah m).map fun i=>(S i (q i)).toNat)<=D)(F:FS X M2 X2 B2 (tl w (glue k (fun u i=>S i u) un)) P2 f2):cut k P2=r/\(∀i,i<r->pp P2 i=i)/\LI A k w r D b B2 1 (fun u=>f2 (pp P2 u)) U (fun u t=>f2 (pp P2 u) (k+t)) Bn (lf w ((tl w (glue k (fun u i=>S i u) un)).map fun r=>shr f2 P2 r) (tl w un)) Q (fun a=>pp P2 (r+a)-k):=by
 have rk:=I.rk;have f:P2.length=w:=by rw[F.len];exact iF
 obtain⟨c1,c2,y⟩:=Fq (m:=k) F.srt f;have d:∀{i},i<w->pp P2 i∈P2:=fun hi=>oy f hi;have sp:∀p∈P2,Sp (tl w (glue k (fun u i=>S i u) un)) (f2 p):=fun p hp=>(F.fr p hp).sp;have row:∀u,u<w->Sp (tl w (glue k (fun u i=>S i u) un)) (glue k (fun u i=>S i u) un u):=fun u hu=>Sp.mem (List.mem_map.mpr ⟨u,List.mem_range.mpr hu,rfl⟩);have zero:∀v,Sp (tl w (glue k (fun u i=>S i u) un)) v->∀i,r<=i->i<k->v i=0:=fun v s i h1 h2=>by
  obtain⟨c,_,e⟩:=s;rw[e];refine zJ _ _ fun x hx=>?_;obtain⟨u,hu,rfl⟩:=List.mem_map.mp hx;rw[zQ h2];exact I.z i u h1 h2 (List.mem_range.mp hu)
 have G:∀i j,i<r->i<j->j<k->glue k (fun u i=>S i u) un (q i) j=0:=fun i j hi h1 h2=>by
  rw[zQ h2]
  by_cases h:j<r
  ·exact I.sz j (q i) h (I.ql i j h1 h)
  ·exact I.z j (q i) ω h2 (I.qw i hi)
 have lt:Lt (Sp (tl w (glue k (fun u i=>S i u) un))):=⟨Sp.zero,fun m s hw=>s.sub hw m⟩;have H:∀i,i<r->0<glue k (fun u i=>S i u) un (q i) i:=fun i hi=>by rw[zQ ω];exact I.sp i hi
 have inP:∀j,j<r->j∈P2:=fun j o=>by
  obtain⟨v,J,M,N⟩:=alone (L:=fun i=>glue k (fun u i=>S i u) un (q i)) lt rk (fun i hi=>row _ (I.qw i hi)) H G j o;exact IY F.ech F.srt (J.trans F.gen) (fun u hu=>N u ω ω) M
 have lo:∀p∈P2,p<k->p<r:=fun p hp h=>by
  rcases Bh p r with g|g
  ·exact g
  ·have:=zero _ (sp p hp) p g h
   have:=F.ech.pos p hp;(first|lia|omega)
 have two:∀i,i<r->i<w/\pp P2 i=i:=by
  intro i
  induction i using Nat.strongRecOn with
  |_ i ih=>
   intro hi;obtain⟨j,o,e⟩:=Od f (inP i hi);have h1:i<=j:=by
    rcases Bh j i with g|g
    ·have:=(ih j g ω).2;(first|lia|omega)
    ·exact g
   have h2:j<=i:=by
    rcases Bh i j with g|g
    ·have C:=g0 f F.srt g o
     rw[e] at C;obtain⟨_,e2⟩:=ih (pp P2 i) C ω;rcases Nat.lt_trichotomy (pp P2 i) i with g2|g2|g2
     ·have:=g0 f F.srt g2 ω;(first|lia|omega)
     ·(first|lia|omega)
     ·(first|lia|omega)
    ·exact g
   have:j=i:=ω
   subst this;exact⟨o,e⟩
 have O:cut k P2=r:=by
  rcases Nat.lt_trichotomy (cut k P2) r with g|g|g
  ·have:=y (cut k P2) (Ae _) (two _ g).1
   rw[(two _ g).2] at this;(first|lia|omega)
  ·exact g
  ·have h1:=c2 r g
   have h2:=lo _ (d ω) h1;have C:r<=pp P2 r:=by
    rcases Nat.eq_zero_or_pos r with z|z
    ·(first|lia|omega)
    ·have:=g0 f F.srt (show r-1<r from ω) ω
     rw[(two (r-1) ω).2] at this;(first|lia|omega)
   (first|lia|omega)
 have hq:∀a,a<w-r->k+(pp P2 (r+a)-k)=pp P2 (r+a):=fun a l=>by have:=y (r+a) ω ω;(first|lia|omega)
 refine⟨O,fun i hi=>(two i hi).2,I.rk,I.rw,Ae 1,fun u i hu hi=>?_,I.bu,?_,I.ku,⟨fun a c h1 h2=>?_,fun a u l hu=>?_,fun a l=>?_,fun a c h1 h2=>?_,fun i a hi l=>?_,fun a l=>?_⟩,fun u hu=>?_,fun u i hu hi=>?_,fun u i h1 h2=>?_,fun u i hu hi h=>?_,fun m E=>?_⟩
 ·exact IS (T:=S) (U:=U) (V:=un) F I.bl _ (d hu) i hi
 ·have:=C0 F (Fj w)
  have e:(P2.map fun p=>fun t=>f2 p (k+t))=tl w (fun u t=>f2 (pp P2 u) (k+t)):=by
   have:=Fn f
   conv=>lhs;rw[this]
   rw[AV];rfl
  rw[e] at this;exact this
 ·have:=g0 f F.srt (show r+a<r+c from ω) ω
  have:=y (r+a) ω ω;show pp P2 (r+a)-k<pp P2 (r+c)-k;(first|lia|omega)
 ·have hu:u<pp P2 (r+a)-k:=hu
  exact F.ech.z _ (d ω) (k+u) ω
 ·show 0<f2 (pp P2 (r+a)) (k+(pp P2 (r+a)-k))
  rw[hq a l];exact F.ech.pos _ (d ω)
 ·show 0<=f2 (pp P2 (r+a)) (k+(pp P2 (r+c)-k))/\f2 (pp P2 (r+a)) (k+(pp P2 (r+c)-k))<f2 (pp P2 (r+c)) (k+(pp P2 (r+c)-k))
  rw[hq c h2];exact F.red _ (d ω) _ (d ω) (g0 f F.srt ω ω)
 ·show(f2 (pp P2 i) (k+(pp P2 (r+a)-k))).natAbs<=1*(f2 (pp P2 (r+a)) (k+(pp P2 (r+a)-k))).natAbs
  rw[hq a l];have:=F.red _ (d (show i<w from ω)) _ (d (show r+a<w from ω)) (g0 f F.srt ω ω);(first|lia|omega)
 ·show(f2 (pp P2 (r+a)) (k+(pp P2 (r+a)-k))).natAbs<=B2
  rw[hq a l];exact F.piv _ (d ω)
 ·show 0<f2 (pp P2 u) u
  rw[(two u hu).2];exact F.ech.pos u (inP u hu)
 ·show f2 (pp P2 u) i=0
  rw[(two u hu).2];exact F.ech.z u (inP u hu) i hi
 ·show 0<=f2 (pp P2 u) i/\f2 (pp P2 u) i<f2 (pp P2 i) i
  rw[(two u ω).2,(two i h2).2];exact F.red u (inP u ω) i (inP i h2) h1
 ·show f2 (pp P2 u) i=0
  by_cases W:u<r
  ·exact zero _ (sp _ (d hu)) i ω hi
  ·exact F.ech.z _ (d hu) i (by have:=y u ω hu;(first|lia|omega))
 ·have T:Two (Sp (tl w (glue k (fun u i=>S i u) un))) r (fun i=>glue k (fun u i=>S i u) un (q i)) f2:=
   ⟨lt,fun i hi=>row _ (I.qw i hi),H,fun i j h1 h2=>G i j ω h1 ω,fun i hi=>sp i (inP i hi),fun i hi=>F.ech.pos i (inP i hi),fun i j hi o=>F.ech.z i (inP i hi) j o,fun v i s hi hz=>j6 F.ech F.srt (inP i hi) (s.trans F.gen) fun p _ hp=>hz p hp⟩
  have e1:tn (fun u=>f2 (pp P2 u)) m=tn f2 m:=iB fun i hi=>by show f2 (pp P2 i) i=f2 i i;rw[(two i ω).2]
  have e2:tn (fun i=>glue k (fun u i=>S i u) un (q i)) m=(Ah m).map fun i=>(S i (q i)).toNat:=by
   unfold tn;exact Ba fun i hi=>by
    show(glue k (fun u i=>S i u) un (q i) i).toNat=_;rw[zQ (by have:=List.mem_range.mp hi;(first|lia|omega))]
  rw[e1];have:=E4 T E;rw[e2] at this;exact Ag this (P m E)
end
def mu(T:Nat->Vc):Nat->Nat
 |0=>0
 |r+1=>mu T r+Nat.log2 (pr (tn T (r+1)))
def Fx{a b:Nat}(c:1<=a)(h:a<=b):a.log2<=b.log2:=by
 rcases Bh b.log2 a.log2 with g|g
 ·have h1:=(Nat.log2_lt (show b≠0 from ω)).mp g
  have h2:=Nat.log2_self_le (show a≠0 from ω);(first|lia|omega)
 ·exact g
def Oi{a b:Nat}(c:1<=a)(h:2*a<=b):a.log2+1<=b.log2:=by
 rcases Bh b.log2 (a.log2+1) with g|g
 ·have h1:=(Nat.log2_lt (show b≠0 from ω)).mp g
  have h2:=Nat.log2_self_le (show a≠0 from ω);rw[Nat.pow_succ] at h1;(first|lia|omega)
 ·exact g
def Fy{T T':Nat->Vc}:∀r,(∀i,i<r->0<T' i i)->(∀m,m<=r->pr (tn T' m)<=pr (tn T m))->mu T' r<=mu T r
 |0,_,_=>Ae _
 |r+1,hp,h=>by
  have h1:=Fy r (fun i hi=>hp i ω) fun m a=>h m ω;have h2:=Fx (ot (k:=r+1) hp) (h (r+1) (Ae _));show mu T' r+_<=mu T r+_;(first|lia|omega)
def Fz{T T':Nat->Vc}:∀r,(∀i,i<r->0<T' i i)->(∀m,m<=r->pr (tn T' m)<=pr (tn T m))->(∃m,m<=r/\2*pr (tn T' m)<=pr (tn T m))->mu T' r+1<=mu T r
 |0,_,_,⟨m,b,h⟩=>by
  have:m=0:=ω
  subst this;have h:2*1<=1:=h;(first|lia|omega)
 |r+1,hp,h,⟨m,b,hh⟩=>by
  have a:∀i,i<r->0<T' i i:=fun i hi=>hp i ω;show mu T' r+_+1<=mu T r+_
  by_cases e:m=r+1
  ·subst e
   have h1:=Fy (T:=T) r a fun m b=>h m ω;have h2:=Oi (ot (k:=r+1) hp) hh;(first|lia|omega)
  ·have h1:=Fz r a (fun m b=>h m ω) ⟨m,ω,hh⟩
   have h2:=Fx (ot (k:=r+1) hp) (h (r+1) (Ae _));(first|lia|omega)
def IZ{T:Nat->Vc}{D:Nat}:∀r,(∀i,i<r->0<T i i)->(∀m,m<=r->pr (tn T m)<=D)->mu T r<=r*D.log2
 |0,_,_=>AB _
 |r+1,hp,h=>by
  have h1:=IZ r (fun i hi=>hp i ω) fun m a=>h m ω;have h2:=Fx (ot (k:=r+1) hp) (h (r+1) (Ae _));show mu T r+_<=(r+1)*D.log2;rw[Nat.add_mul];(first|lia|omega)
def Dg(r:Nat)(T:Nat->Vc):Prop:=∀u i,u<r->i<r->u≠i->T u i=0
open Classical in
noncomputable def ms(r:Nat)(T:Nat->Vc):Nat:=2*mu T r+if Dg r T then 0 else 1
section
variable{A T U V f1 f2:Nat->Vc}{k w r D bU bV g M N X B M2 X2 B2:Nat}{Bn Bf:List Vc}{QU QV:Nat->Nat}{P1 P2:List Nat}
def Oj(I:LI A k w r D bU bV g T U V Bn Bf QU QV)(hd:¬Dg r T)(Tr:Tri k r w M g (glue w (fun i u=>T u i) U) (fun a=>w+QU a))(e:FS N M X B (tl k (glue w (fun i u=>T u i) U)) P1 f1)(d:Tri w r k M2 1 (glue k (fun u i=>f1 (pls r w QU i) u) V) (fun a=>k+QV a))(f:FS N M2 X2 B2 (tl w (glue k (fun u i=>f1 (pls r w QU i) u) V)) P2 f2):ms r (fun u=>f2 (pls r k QV u))<ms r T:=by
 obtain⟨_,L,l1,h1⟩:=I.near_done Tr e;obtain⟨_,J,l2,h2⟩:=L.far_done d f;have le:=fun m b=>Ag (l2 m b) (l1 m b);unfold ms;rw[if_neg hd]
 by_cases c:∃m,m<=r/\2*pr (tn (fun u=>f2 (pls r k QV u)) m)<=pr (tn T m)
 ·have:=Fz r J.tp le c
  split<;>(first|lia|omega)
 ·have:=Fy r J.tp le
  have dg:Dg r (fun u=>f2 (pls r k QV u)):=by
   rcases h2 with ⟨m,b,h⟩|h
   ·exact absurd ⟨m,b,Ag h (l1 m b)⟩ c
   ·exact fun u i hu hi ne=>(h u hu).2 i hi (Ne.symm ne)
  rw[if_pos dg];(first|lia|omega)
def Ol{C:Nat->Vc}(I:LI A k w r D bU bV g T U V (tl k C) Bf QU QV)(hr:1<=r)(hd:Dg r T)(hn:¬∀i,i+1<r->T i i ∣ T (i+1) (i+1))(c:Tri w r k M2 1 (glue k (fun u i=>aP k w A (b4 U r (r-1) i) (V u)) V) (fun a=>k+QV a))(d:FS N M2 X2 B2 (tl w (glue k (fun u i=>aP k w A (b4 U r (r-1) i) (V u)) V)) P2 f2):ms r (fun u=>f2 (pls r k QV u))<ms r T:=by
 obtain⟨L,val⟩:=I.slid hr hd;obtain⟨_,J,l2,h2⟩:=L.far_done c d;have rk:=I.rk;have j:=I.rw;have e:∀m,m<=r->tn (fun i u=>aP k w A (b4 U r (r-1) i) (V u)) m=tn T m:=fun m b=>iB fun i hi=>by
  show aP k w A (b4 U r (r-1) i) (V i)=T i i;rw[val i i ω ω,if_pos ⟨Ae _,ω⟩]
 have le:∀m,m<=r->pr (tn (fun u=>f2 (pls r k QV u)) m)<=pr (tn T m):=fun m b=>by rw[<-e m b];exact l2 m b
 unfold ms;rw[if_pos hd];have f:∃m,m<=r/\2*pr (tn (fun u=>f2 (pls r k QV u)) m)<=pr (tn T m):=by
  rcases h2 with ⟨m,b,h⟩|h
  ·exact⟨m,b,by rw[<-e m b];exact h⟩
  ·refine absurd (fun i hi=>?_) hn
   have:=Oc L c d h (i:=i) (u:=i+1) ω ω;have this:aP k w A (b4 U r (r-1) i) (V i) ∣ aP k w A (b4 U r (r-1) i) (V (i+1)):=this
   rwa [val i i ω ω,val i (i+1) ω ω,if_pos ⟨Ae _,ω⟩,if_pos ⟨ω,ω⟩] at this
 have:=Fz r J.tp le f;split<;>(first|lia|omega)
end
section
variable{N M X B:Nat}{R:List Vc}{P:List Nat}{f:Nat->Vc}{l:Vc}
def oA:cM N M X B<=cE N M X B:=Bb _ _
def FB(a:1<=B):cK N M X B<=cM N M X B:=Nat.le_mul_of_pos_right _ (Nat.pow_pos (CS a))
def FS.mid{r:Vc}(c:1<=B)(F:FS N M X B R P f)(d:R.length<N)(hr:∀p∈P,(r p).natAbs<=M)(i:Nat):Rep (R++[r]) (cE N M X B) (aY f (P.take i) r):=by
 have a:(P.take i).length<=N:=by have:=F.len;rw[List.length_take];(first|lia|omega)
 obtain⟨b,_⟩:=k7 (R:=R++[r]) (fun p hp=>(F.fr p hp).more) F.fv F.ech.pos (P.take i) (fun q hq=>List.mem_of_mem_take hq) (Rep.mem (AE R (List.mem_singleton.mpr rfl))) hr;refine b.mono (Ag ?_ (Ag (FB c) oA));unfold cK;have h1:(1+B) ^ (P.take i).length<=(1+B) ^ N:=AA ω a;have h2:(P.take i).length*(M*(1+B) ^ (P.take i).length*cC N X B)<=N*(M*(1+B) ^ N*cC N X B):=AL a (Al _ (Ak _ h1));(first|lia|omega)
structure Mid(N M X B:Nat)(R:List Vc)(P:List Nat)(f:Nat->Vc)(m:Vc)(a b c d:Int):Prop where
 ech:Ech P f
 fr:∀q∈P,Rep R (cE N M X B) (f q)
 piv:∀q∈P,(f q q).natAbs<=B
 met:∀i,Rep R (cE N M X B) (aY f (P.take i) m)
 a1:a.natAbs<=B
 b1:b.natAbs<=B
 c1:c.natAbs<=B
 d1:d.natAbs<=B
def TS.mid{t p:Nat}{g a b c d:Int}(A:1<=B)(T:TS N M X B R P f l t)(hp:p∈P)(s:∀i,i<p->l i=0)(U:l p≠0)(C:t<=p)(G:GI (f p p) (l p) g a b 0 c d):Mid N M X B R P (put f p (mix a (f p) b l)) (mix c (f p) d l) a b c d:=by
 obtain⟨T2,o⟩:=T.next A hp s U C G;have E:=CS (N:=N) A;obtain⟨W,r1⟩:=T.red p hp;have v:=T.piv p hp;obtain⟨c1,c2⟩:=G.le;have a1:a.natAbs<=B:=Ag G.b1 ω;have w:b.natAbs<=B:=Ag G.b2 v;have c1:c.natAbs<=B:=Ag c1 ω;have d1:d.natAbs<=B:=Ag c2 v;have F:∀q∈P,(l q).natAbs<=B:=fun q hq=>by have:=T.red q hq;have:=T.piv q hq;(first|lia|omega)
 have H:=T.fo p hp C;have I:∀{a b:Int},a.natAbs<=B->b.natAbs<=B->∀q∈P,(mix a (f p) b l q).natAbs<=2*B*B:=fun{a b} u hb q hq=>by
  have J:(a*f p q).natAbs<=B*B:=by rw[AD];exact AL u (H q hq)
  have L:(b*l q).natAbs<=B*B:=by rw[AD];exact AL hb (F q hq)
  have t3:=Int.natAbs_add_le (a*f p q) (b*l q);show(a*f p q+b*l q).natAbs<=_;rw[AN];generalize B*B=Y at J L ⊢;(first|lia|omega)
 have O:P.length<=N:=by have:=T.len;have:=T.few;(first|lia|omega)
 have cnt:(P.filter fun q=>decide (q<t)).length+1<=N:=by
  have h1:=T.len;have h2:=T.few;have:=List.length_filter_le (fun q=>decide (q<t)) P;(first|lia|omega)
 generalize hK:cK N M X B*cG N B ^ (P.filter fun p=>decide (p<t)).length=K;have fr:=T.fr;have x:=T.lr;rw[hK] at fr x;have y:∀{a b:Int},a.natAbs<=B->b.natAbs<=B->Rep R (2*B*K) (mix a (f p) b l):=fun{a b} u hb=>((fr p hp).lin x u hb).mono (by rw[AN];(first|lia|omega));have S:K<=2*B*K:=Nat.le_mul_of_pos_left _ ω;have z:∀q∈P,Rep R (2*B*K) (put f p (mix a (f p) b l) q):=fun q hq=>by
  by_cases e:q=p
  ·subst e;rw[zK];exact y a1 w
  ·rw[dh e];exact(fr q hq).mono S
 have h:∀n,n<=N->2*B*K+n*(2*B*B*(1+2*B*B) ^ n*(2*B*K))<=cG N B*K:=fun n hn=>by
  unfold cG cW;have h1:(1+2*B*B) ^ n<=(1+2*B*B) ^ N:=AA ω hn;generalize 2*B*B=Y at h1 ⊢;have h2:n*(Y*(1+Y) ^ n*(2*B*K))<=N*(Y*(1+Y) ^ N*(2*B*K)):=AL hn (Al _ (Ak _ h1));refine Ag (Nat.add_le_add_left h2 _) (Nat.le_of_eq ?_);generalize Y*(1+Y) ^ N=Z;generalize 2*B=Q;rw[Nat.mul_add,Nat.mul_one,Nat.add_mul,<-AN N Z,Nat.mul_comm Q (N*Z),AN (N*Z)]
 have j:cG N B*K<=cE N M X B:=by
  refine Ag ?_ oA;rw[<-hK,Nat.mul_left_comm,<-Nat.pow_succ'];exact Ak _ (AA E cnt)
 have two:2*B*K<=cG N B*K:=Ag (Bb _ _) (h 0 ω);refine⟨o,fun q hq=>(z q hq).mono (Ag two j),T2.piv,fun i=>?_,a1,w,c1,d1⟩;have hi:(P.take i).length<=N:=by rw[List.length_take];(first|lia|omega)
 obtain⟨D,_⟩:=k7 z (fun q hq r hr=>T2.fv q hq r hr) o.pos (P.take i) (fun q hq=>List.mem_of_mem_take hq) (y c1 d1) (I c1 d1);exact D.mono (Ag (h _ hi) j)
def TS.rep{t:Nat}(a:1<=B)(T:TS N M X B R P f l t):(∀p∈P,Rep R (cE N M X B) (f p))/\Rep R (cE N M X B) l:=
 ⟨fun p hp=>(T.fr p hp).mono (Ag (T.cnt a) oA),T.lr.mono (Ag (T.cnt a) oA)⟩
end
def TS.nz{N M X B Y t:Nat}{R:List Vc}{P:List Nat}{f:Nat->Vc}{l:Vc}(T:TS N M X B R P f l t)(hi:i' R)(hb:∀r∈R,∀u,(r u).natAbs<=Y):∃u,l u≠0:=by
 refine AM fun no=>?_;have z:∀u,l u=0:=fun u=>AM fun h=>no ⟨u,h⟩;have d:∀r∈R,Sp (P.map f) r:=fun r hr=>(T.gen r hr).trans fun s a=>by
  rcases List.mem_append.mp a with h|h
  ·exact Sp.mem h
  ·rw[List.mem_singleton.mp h];exact Sp.zero.eq z
 obtain⟨c,h1,⟨x,hx,hn⟩,h2,_⟩:=gP (M:=Y+1) ω (fun v b p _=>Nat.le_succ_of_le (hb v b p)) (show P.length<R.length by have:=T.len;(first|lia|omega));exact hn (CO hi T.ech T.srt d c h1 h2 x hx)
end Tb
end
section
namespace L2
open PySem PySem.Spec PyProof.Rows
def oB(hi:Int)(n:Nat):It:=⟨fun i _=>i<n,fun i H x H'=>H'=H/\x=.int (hi-i),fun i _=>n<=i⟩
def Om{P:Program}{w:World}{K:Af}{tg:Expr}(it:Addr)(lo:Int)(n:Nat):Turn P w K tg (oB lo n) [it] it (fun i h=>IsRangeIter h it (lo+(i:Nat)*(-1)) ((n:Int)-(i:Nat)) (-1)) where
 mem:=by simp
 obj:=fun i h st b hb=>by
  have e:b=it:=by simpa using hb
  subst e;exact⟨_,st,fun v z=>by
   have x:Data.fields _=Data.cell v:=z;cases x⟩
 keep:=fun i h h' st k=>k it (by simp) _ st
 item:=by
  intro X c hw d hc i aa s σ H E I a st hg;subst c hw d;obtain⟨f,f1,f2,g,j,l⟩:=a it (by simp);have W:=Walks.range (prog:=X.prog) (w:=X.w) (I.ok.hd hc) it lo (-1) n;refine W.item i s _ _ hg st fun v h' tk q p r=>?_;obtain⟨t,rfl⟩:=q;have y:Inv X aa σ H {s with heap:=h',toks:=tk}:=I.turned (fun b o hb e=>r b o (by simpa using hb) e) f f1 g j l;refine⟨_,rfl,D4 (s:={s with heap:=h',toks:=tk}) (n:="range_iterator") p rfl rfl ξ ⟨.int (lo-i),H,y,⟨t,?_⟩,⟨rfl,rfl⟩,p,fun b hb=>(a b hb).1⟩⟩;rw[show lo+(i:Int)*(-1)=lo-i from ω]
 done:=by
  intro X c hw d hc i aa s σ H E I a st hg;subst c hw d;obtain⟨f,f1,f2,g,j,l⟩:=a it (by simp);exact wpAny_pyNext_range_end (I.ok.hd hc) st (by have:n<=i:=hg;(first|lia|omega)) fun h' u=>⟨rfl,I.turned (t':=s.toks) (fun b o hb e=>u b o hb e) f f1 g j l⟩
 self:=fun _ _ _ _ _ st h=>wpAny_pyIter_rangeiter st h
section
variable{X:Cx}{tg:Expr}
def On{aa:Ψ}{σ:St}{H:Hp}{s:Shared}{R:It->Hp->Prop}{E:Ω}{lo hi:Int}{t u v:Tok}{tk:Nat}(I:Inv X aa σ H s)(h1:-(2 ^ 62)<=lo)(h2:lo<2 ^ 62)(a:-(2 ^ 62)<=hi)(c:hi<2 ^ 62)(q:R (oB lo (lo-hi).toNat) H):wpAny (model X.prog X.w) X.A (pyIter (.ref s⁻¹)) (D3 X aa σ tg R) E {s with heap:=s.heap.push {cls:=.type "range",data:=.fields #[.int lo t,.int hi u,.int (-1) v]},toks:=tk}:=by
 refine wpAny_pyIter_range (IsRange.new ..) (PySem.W.small_down h1 h2 a c) ?_;have I1:Inv X aa σ H {s with heap:=s.heap.push {cls:=.type "range",data:=.fields #[.int lo t,.int hi u,.int (-1) v]},toks:=tk}:=I.kept fun b o e=>Ai _ e;refine⟨(s.heap.push {cls:=.type "range",data:=.fields #[.int lo t,.int hi u,.int (-1) v]}).objs.size,[(s.heap.push {cls:=.type "range",data:=.fields #[.int lo t,.int hi u,.int (-1) v]}).objs.size],_,_,H,rfl,
  I1.kept (t':=tk) fun b o e=>Ai _ e,Om _ lo (lo-hi).toNat,?_,fun b hb=>?_,q⟩
 ·have e1:lo+((0:Nat):Int)*(-1)=lo:=by simp
  have e2:(((lo-hi).toNat:Nat):Int)-((0:Nat):Int)=Builtin.Range.rangeSize lo hi (-1):=by rw[PySem.W.rangeSize_downNat];(first|lia|omega)
  show IsRangeIter _ _ (lo+((0:Nat):Int)*(-1)) ((((lo-hi).toNat:Nat):Int)-((0:Nat):Int)) (-1);rw[e1,e2];exact AK _ rfl
 ·have e:b=(s.heap.push {cls:=.type "range",data:=.fields #[.int lo t,.int hi u,.int (-1) v]}).objs.size:=by simpa using hb
  subst e;exact I1.fpOk (Ae _) (I1.hok.fresh (Ae _))
def Oo(ta:TA):TI:=fun σ H R=>ta σ H fun vs H1=>∃i j:Int,vs=[.int i,.int j,.int (-1)]/\(-(2 ^ 62)<=i/\i<2 ^ 62/\-(2 ^ 62)<=j/\j<2 ^ 62)/\R (oB i (i-j).toNat) H1
def I0{a b c:Expr}{ta:TA}{p pos:Pos}(hg:Gl X "range")(v:X.mg "range"=none)(w:PA X [a,b,c] ta)(x:starEach [a,b,c] X.env=[(false,eval a X.env),(false,eval b X.env),(false,eval c X.env)]:=by rfl)(f:starEach [b,c] X.env=[(false,eval b X.env),(false,eval c X.env)]:=by rfl):PI X tg (.Call (.Name "range" p) [a,b,c] [] pos) (Oo ta):=by
 intro aa s σ H R I h;refine Call_ (iP I hg v boot_range (PyProof.Rows.callWith_type1 (aT (w pos aa s σ H _ I h) fun us z ⟨vs,H1,y,g,d⟩=>?_) (by rw[x,f]) (by rw[f];rfl)));obtain⟨i,j,e,⟨d,l,o,u⟩,q⟩:=d;subst e;cases g with
 |cons r rr=>
  cases rr with
  |cons r' rr=>
   cases rr with
   |cons r'' rr=>
    cases rr;obtain⟨t,rfl⟩:=r;obtain⟨t',rfl⟩:=r';obtain⟨A,rfl⟩:=r'';exact call_range_3 ξ (On y d l o u q) (.inl (PyProof.noPylong_of_log2 δ))
end
def I_{hi:Int}{n:Nat}{g:TG}{tb:TS}{D:Ends}{σ:St}{H:Hp}(b:Nat->St->Hp->Prop)(j:b 0 σ H)(l:∀i σ H,i<n->b i σ H->g (.int (hi-i)) σ H fun c H2=>tb {D with nx:=b (i+1),ct:=b (i+1),bk:=D.nx} c H2)(hd:∀σ H,b n σ H->D.nx σ H):∃W:Nat->Nat->St->Hp->Prop,(∃m,W 0 m σ H)/\∀i m σ H,W i m σ H->
   ((oB hi n).stop i H/\D.nx σ H)\/((oB hi n).go i H/\∃N:St->Hp->Prop,(∀d H',N d H'->∃f,f<m/\W (i+1) f d H')/\∀x H',(oB hi n).yld i H x H'->g x σ H' fun c H2=>tb {D with nx:=N,ct:=N,bk:=D.nx} c H2):=by
 refine⟨fun i m σ H=>m=n-i/\i<=n/\b i σ H,⟨n,by simp,AB _,j⟩,?_⟩;rintro i m σ H ⟨rfl,hi,p⟩
 by_cases a:i<n
 ·refine .inr ⟨a,b (i+1),fun d H' h=>⟨n-(i+1),ω,rfl,a,h⟩,fun x H' y=>?_⟩
  obtain⟨e,y⟩:=y;subst e y;exact l i σ _ a p
 ·have e:i=n:=ω
  subst e;exact .inl ⟨Ae _,hd σ H p⟩
end L2
end
section
namespace K22
open PySem L2
abbrev C5:Stmt:=top 34
def Ja:A4 "len"=some (.builtin "len"):=δ
def FC{R:List Tb.Vc}{ps:List Nat}{fr:Nat->List Int}{W CE N Y:Nat}{rn:List Int}(g:∀r∈R,∀u,(r u).natAbs<=Y)(a:R.length<=N)(j:∀p∈ps,Tb.Rep R CE (vF fr p))(b:∀p∈ps,0<vF fr p p)(e:∀p∈ps,(vF fr p p).natAbs<2 ^ 9000)(d:Wid W ps fr)(hn:rn.length=W)(met:∀i,Tb.Rep R CE (Tb.aY (vF fr) (ps.take i) (vc rn)))(c:N*(CE*Y)<big):j7 fr W rn ps:=by
 refine⟨hn,d.most,fun p hp=>⟨(d.row p hp).1,(d.row p hp).2,b p hp,e p hp⟩,fun i p hp x hx=>?_⟩;have h:=Am hp;refine CV (Ax Is ?_) ?_
 ·have f:=met i
  rw[<-oa (fr:=fr) (W:=W) (ps:=ps.take i) (rn:=rn) hn fun q hq=>(d.row q (List.mem_of_mem_take hq)).2] at f;exact Ax (Ag (f.le (u:=p) fun r hr=>g r hr p) (Al _ a)) c
 ·obtain⟨u,_,rfl⟩:=CU hx
  exact Ax (Ag ((j p h).le (u:=u) fun r hr=>g r hr u) (Al _ a)) c
structure Jb(N M X B Y:Nat)(R:List Tb.Vc):Prop where
 hB:1<=B
 piv:B<2 ^ 9000
 lim:N*(Tb.cE N M X B*Y)<big
 hR:∀r∈R,∀u,(r u).natAbs<=Y
 few:N<64
 bd:Tb.Bd N M X B R
def Fnd.no{H:Hp}{a:Addr}{es:List (Nat×Addr)}{fr:Nat->List Int}(h:Fnd H a es fr){p:Nat}(hp:p∉es.map (·.1)):DGet H a (.int p) none:=by
 have:=DGet.k (k:=Sum.inl (p:Int)) h.at_;rw[NR ?_] at this
 ·exact this
 ·intro f b z
  rw[AV] at b;obtain⟨e,c,rfl⟩:=List.mem_map.mp b;have d:(Sum.inl (e.1:Int):Key)=Sum.inl (p:Int):=z;have:(e.1:Int)=p:=by injection d
  exact hp (List.mem_map.mpr ⟨e,c,ω⟩)
def fM{l:List Int}{p:Nat}(h:p<l.length):(l.map V.int)[p]?=some (V.int (vc l p)):=by
 unfold vc;rw[Aj,Ab,Ac h];rfl
def Fra(a:Addr)(H H':Hp):Prop:=∀b o,b≠a->H b=some o->H' b=some o
def Fra.trans{a:Addr}{H H1 H2:Hp}(h:Fra a H H1)(h2:Fra a H1 H2):Fra a H H2:=fun b o hb e=>h2 b o hb (h b o hb e)
def Fra.of{a:Addr}{H H1:Hp}(h:Same H H1):Fra a H H1:=fun b o _ e=>h b o e
def hA(xs:List V)(n:Nat):cI xs (some (n:Int)) none=xs.drop n:=by
 unfold cI;rw[HT.Hf,HT.G'];rcases Nat.le_total n xs.length with h|h
 ·rw[Nat.min_eq_left h,An (by simp)]
 ·rw[Nat.min_eq_right h,List.drop_eq_nil_of_le (Ae _),List.drop_eq_nil_of_le h,List.take_nil]
def hE(l:List Int)(q:Nat):List Int:=if 0<vc l q then l else l.map fun x=>-x
def Op{l:List Int}{q:Nat}:vc (hE l q)=Tb.up (vc l) q:=by
 unfold hE Tb.up;split
 ·rfl
 ·exact NW
def Oq{l:List Int}{q:Nat}:(hE l q).length=l.length:=by unfold hE;split;rfl;simp
def Jc{q:Nat}:∀{P:List Nat},(Tb.ins q P).Perm (P++[q])
 |[]=>.refl _
 |p::P=>by
  unfold Tb.ins;split
  ·exact(List.perm_append_singleton q (p::P)).symm
  ·exact(Jc (P:=P)).cons p
def share{c:Bool}{A B:Prop}{C S:Addr->Hp->Prop}(h2:(∀u H,S u H->C u H)->¬c=true->B)(h1:(∀u H,S u H->C u H)->c=true->A)(fin:∀u H,S u H->C u H):if c=true then A else B:=by
 split
 ·exact h1 fin (by assumption)
 ·exact h2 fin (by assumption)
structure Bt(a d:Addr)(q W N M X B:Nat)(R:List Tb.Vc)(P:List Nat)(H0 H:Hp)(ln:List Int)(es:List (Nat×Addr))(fr:Nat->List Int)(t:Nat):Prop where
 fra:Fra a H0 H
 fnd:Fnd H a es fr
 pls:Pls es P
 wid:Wid W P fr
 at_:H d=some (.lst (ln.map V.int))
 len:ln.length=W
 ts:Tb.TS N M X B R P (vF fr) (vc ln) t
 tq:t<=q
 qW:q<W
 low:∀i,i<q->vc ln i=0
 nz:vc ln q≠0
def FE{H:Hp}{a b:Addr}{es:List (Nat×Addr)}{fr:Nat->List Int}{xs:List V}(h:Fnd H a es fr)(hb:H b=some (.lst xs)):b≠a:=fun z=>by rw[z,h.at_] at hb;cases hb
section
variable{P:Program}{w:World}{K:Af}{mg:Str->Option Value}{base:Heap}
def Jd:Sp:=fun vs H Q _=>∃(a r:Addr)(rn:List Int)(es:List (Nat×Addr))(fr:Nat->List Int)(P:List Nat)(N M X B Y W:Nat)(R:List Tb.Vc),vs=[.ref a,.ref r]/\H r=some (.lst (rn.map V.int))/\Fnd H a es fr/\Pls es P/\Wid W P fr/\rn.length=W/\
 Tb.FS N M X B R P (vF fr)/\R.length<N/\(∀p∈P,(vc rn p).natAbs<=M)/\Jb N M X B Y (R++[vc rn])/\
 ∀H' d b c,Fra a H H'->Fnd H' a d b->Pls d c->Wid W c b->Tb.FS N M X B (R++[vc rn]) c (vF b)->Q .non H'
def jn:zm ["found","row","left","place","top","pair","places","k"] ["found","row"] (ze C5):=⟨rfl,rfl,rfl,δ,rfl,δ,δ⟩
def Os{f fr ff fp fm:Addr}{fd dY lI cL cP:FuncData}(F:Fun K "take_in" "take_in" C5 f fd)(bs:mg "sorted"=none)(bg:mg "range"=none)(bn:mg "len"=none)(Fr:Fun K "reduced" "reduced" jd fr dY)(br:Binds K dY ["row","found","places"] [])(mr:mg "reduced"=some (.ref fr))(Gr:ar P w K mg base aK 2 fr dY ["row","found","places"] Ih)(Ff:Fun K "first_place" "first_place" CP ff lI)(bf:Binds K lI ["row"] [])(mf:mg "first_place"=some (.ref ff))(Gf:ar P w K mg base aK 1 ff lI ["row"] Ie)(Fp:Fun K "divisor_pair" "divisor_pair" sQ fp cL)(bp:Binds K cL ["one","other"] [])(mp:mg "divisor_pair"=some (.ref fp))(Gp:ar P w K mg base aK 1 fp cL ["one","other"] Ig)(Fm:Fun K "mix_of_two" "mix_of_two" rZ fm cP)(bm:Binds K cP ["often","row","other_often","other"] [])(mm:mg "mix_of_two"=some (.ref fm))(Gm:ar P w K mg base aK 1 fm cP ["often","row","other_often","other"] HW):ar P w K mg base aK 3 f fd ["found","row"] Jd:=by
 refine F.ok jn (fun vs H Q E h=>?_) (fun ai A outer s H vs Q E hr h=>?_)
 ·obtain⟨a,r,rn,es,fr,PP,N,M,X,B,Y,W,R,rfl,_⟩:=h;rfl
 ·obtain⟨a,r,rn,es,fR,PP,N,M,X,B,Y,W,R,rfl,h1,hF,hP,hW,hn,FS,hlt,hM,L,k⟩:=h
  have hu:=y_ hr;have hr1:Room 1 _:=hr.mono ξ;refine⟨_,zb (zj (i:=2) jn.nd rfl (Or.inl rfl) (zf Gr hr rfl mr Fr.kp br .nil ak (af (pv 1) (af (pv 0) (af (zi (zZ rfl) rfl bs sU (af (pv 0) ah)) ah)))))
   (zb (zj (i:=3) jn.nd rfl (Or.inl rfl) (zf Gf hr1 rfl mf Ff.kp bf .nil ak (af (pv 2) ah)))
   (zb (pQ A0 (Ln (Mb hu (pv 3) (pv 0)) (by with_unfolding_all rfl))
    (zb (zj (i:=4) jn.nd rfl (Or.inl rfl) (kI hu (pv 0) (pv 3) (fun _ _=>rfl)))
    (zb (zj (i:=5) jn.nd rfl (Or.inl rfl) (zf Gp hr1 rfl mp Fp.kp bp .nil ak (af (zu zr (pv 4) (pv 3) (fun _ _=>rfl)) (af (zu zr (pv 2) (pv 3) (fun _ _=>rfl)) ah))))
    (zb (En hu (pv 0) (pv 3) (zf Gm hr1 rfl mm Fm.kp bm .nil ak (af (zu zD (zu zD (pv 5) zd (fun _ _=>rfl)) zd (fun _ _=>rfl)) (af (pv 4) (af (zu zD (zu zD (pv 5) zd (fun _ _=>rfl)) zd (fun _ _=>rfl)) (af (pv 2) ah))))) rfl)
    (zb (zj (i:=2) jn.nd rfl (Or.inl rfl) (zf Gr hr rfl mr Fr.kp br .nil ak (af (zf Gm hr1 rfl mm Fm.kp bm .nil ak (af (zu zD (zu zD (pv 5) zd (fun _ _=>rfl)) zd (fun _ _=>rfl)) (af (pv 4) (af (zu zD (zu zD (pv 5) zd (fun _ _=>rfl)) zd (fun _ _=>rfl)) (af (pv 2) ah))))) (af (pv 0) (af (zi (zZ rfl) rfl bs sU (af (pv 0) ah)) ah)))))
    (zg (zj (i:=3) jn.nd rfl (Or.inl rfl) (zf Gf hr1 rfl mf Ff.kp bf .nil ak (af (pv 2) ah)))))))))
   (zb (En hu (pv 0) (pv 3) (xn (zw iV (zu zr (pv 2) (pv 3) (fun _ _=>rfl)) zd (av _)) (pv 2)
    (zx ["found","row","left","place","top","pair","places","k"] ["number"] [none] (zF (pv 2)) (fun cl C s₀ H₀ ex=>zl (i:=0) (bF ["number"]) rfl (Or.inl rfl)) (fun cl C s₀ H₀ ex=>zA) (fun cl C s₀ H₀ ex=>fS fU (pv 0)) (te:=D9 (rU fun i=>.int (-i)) (aw 0)) (hfr:=cU δ))) rfl)
   (zb (zj (i:=6) jn.nd rfl (Or.inl rfl) (zi (zZ rfl) rfl bs sU (af (pv 0) ah)))
   (zg (fh A0 rfl (I0 rfl bg (af (zt fy (zi zo rfl bn Ja (af (pv 6) ah)) zd) (af (fS fU zd) (af (fS fU zd) ah)))) (zl (i:=7) jn.nd rfl (Or.inl rfl))
    (zg (En hu (pv 0) (zu zr (pv 6) (pv 7) (fun _ _=>rfl)) (zf Gr hr rfl mr Fr.kp br .nil ak (af (kI hu (pv 0) (zu zr (pv 6) (pv 7) (fun _ _=>rfl)) (fun _ _=>rfl)) (af (pv 0) (af (kC kG (pv 6) (ky (zt dU (pv 7) zd)) kx) ah)))) rfl)))))))),?_⟩
  have z64:es.length<64:=by have:=hP.len;have:=FS.len;have:=L.few;(first|lia|omega)
  have T0:=FS.take L.hB hlt hM;have eL:(R++[vc rn]).length<=N:=by rw[AJ];exact hlt
  have pv:∀{x:Nat},x<=B->x<2 ^ 9000:=fun h=>Ax h L.piv;have qR:j7 fR W rn PP:=FC L.hR eL (fun p hp=>(T0.rep L.hB).1 p hp) FS.ech.pos (fun p hp=>pv (FS.piv p hp)) hW hn (fun i=>FS.mid L.hB hlt hM i) L.lim;refine⟨_,rfl,_,rfl,_,rfl,a,d0 es,rfl,hF.at_,(by simpa using z64),fun PL ms pm so dE=>?_⟩;rw[hP.ints pm so];have sP:=Same.new (o:=.lst (PP.map fun p:Nat=>V.int (p:Int))) dE;refine⟨r,a,PL,rn,es,fR,PP,W,rfl,sP _ _ h1,hF.same sP,za,fun p hp=>hP.pm.mem_iff.mp hp,qR,fun d H1 s1 hd=>?_⟩;have e0:vc (aN fR rn PP)=Tb.aY (vF fR) PP (vc rn):=oa hn fun p hp=>(hW.row p hp).2;rw[<-e0] at T0;have l0:(aN fR rn PP).length=W:=nW hn fun p hp=>(hW.row p hp).2;obtain⟨q,q1,q2,q3,q4,q5⟩:=Iq (T0.nz L.bd.ind L.hR);refine⟨_,rfl,d,aN fR rn PP,q,rfl,hd,q2,q3,?_⟩;have B0:Bt a d q W N M X B (R++[vc rn]) PP H H1 (aN fR rn PP) es fR 0:=⟨.of (sP.trans s1),hF.same (sP.trans s1),hP,hW,hd,l0,T0,AB _,ω,q4,q5⟩;refine⟨fun n σ H3=>∃(d:Addr)(q:Nat)(I:List Int)(es:List (Nat×Addr))(fr:Nat->List Int)(t:Nat)(v4 v5:Option V),n=W-q/\σ=[some (.ref a),some (.ref r),some (.ref d),some (.int q),v4,v5,none,none]/\Bt a d q W N M X B (R++[vc rn]) PP H H3 I es fr t,
   ⟨_,d,q,_,es,fR,0,none,none,rfl,rfl,B0⟩,?_⟩
  clear B0 q5 q4 q3 q2 q1 l0 e0 hd s1 sP dE so pm qR T0;clear d q H1 PL ms;rintro n σ H3 ⟨d,q,I,es,fr,t,v4,v5,rfl,rfl,T⟩
  by_cases hq:q∈PP
  ·obtain⟨c,hc,gc,aB⟩:=T.fnd.get (T.pls.pm.mem_iff.mp hq)
   refine⟨_,rfl,_,rfl,a,_,rfl,gc,_,rfl,?_⟩;have rW:=T.wid.row q hq;have uS:=T.len;have mW:=T.wid.most;have x0:0<vF fr q q:=T.ts.ech.pos q hq;obtain⟨BE,y1⟩:=T.ts.red q hq;have y0:0<vc I q:=by have:=T.nz;(first|lia|omega)
   have xb:(vF fr q q).natAbs<2 ^ 9000:=pv (T.ts.piv q hq);have yb:(vc I q).natAbs<2 ^ 9000:=Ax ω xb;have z64:es.length<64:=by have:=T.pls.len;have:=FS.len;have:=L.few;(first|lia|omega)
   have hqe:q∈es.map (·.1):=T.pls.pm.mem_iff.mp hq;refine aW ⟨fun ag H'=>∃n',n'<W-q/\∃(d:Addr)(q:Nat)(I:List Int)(es:List (Nat×Addr))(fr:Nat->List Int)(t:Nat)(v4 v5:Option V),n'=W-q/\ag=[some (.ref a),some (.ref r),some (.ref d),some (.int q),v4,v5,none,none]/\Bt a d q W N M X B (R++[vc rn]) PP H H' I es fr t,fun ag H' h=>h,?_⟩;refine⟨_,rfl,_,rfl,a,_,rfl,gc,?_⟩;refine⟨_,rfl,_,rfl,c,_,_,_,rfl,rfl,SqL.of aB,zh (fM ω),_,rfl,_,rfl,d,_,_,_,rfl,rfl,SqL.of T.at_,zh (fM ω),vF fr q q,vc I q,rfl,x0,y0,xb,yb,fun r0 p1 p2 H4 g a1 b1 c1 d1 s4 i5 h_ cX G=>?_⟩;have Mi:=T.ts.mid L.hB hq T.low T.nz T.tq G;obtain⟨T2,_⟩:=T.ts.next L.hB hq T.low T.nz T.tq G;have rp:=T.ts.rep L.hB;have ent:∀{l:List Int},Tb.Rep (R++[vc rn]) (Tb.cE N M X B) (vc l)->∀x∈l,x.natAbs<big:=fun h x hx=>by
    obtain⟨u,_,rfl⟩:=CU hx;exact Ax (Ag (h.le (u:=u) fun r hr=>L.hR r hr u) (Al _ eL)) L.lim
   have Z:∀{k:Int},k.natAbs<=B->∀{x:Int},x.natAbs<big->ey k x:=by
    intro k hk x hx;exact⟨9000,bt,pv hk,hx,by have:=la;(first|lia|omega)⟩
   have er:=ent (rp.1 q hq);have el:=ent rp.2;refine⟨_,rfl,r0,_,_,_,rfl,rfl,SqT.of i5,zh (j:=0) rfl,p1,_,_,_,rfl,rfl,SqT.of h_,zh (j:=1) rfl,_,rfl,_,rfl,r0,_,_,_,rfl,rfl,SqT.of i5,zh (j:=0) rfl,p1,_,_,_,rfl,rfl,SqT.of h_,zh (j:=2) rfl,_,rfl,c,d,_,_,_,_,rfl,s4 _ _ aB,s4 _ _ T.at_,ω,fun x hx=>Z Mi.a1 (er x hx),fun x hx=>Z Mi.b1 (el x hx),fun e H5 s5 Bs he=>?_⟩;have F5:=T.fnd.same (s4.trans s5);obtain⟨H6,dp,F6,o6⟩:=F5.put (H2:=H5) (p:=q) he ω;refine⟨_,rfl,_,rfl,a,H6,rfl,dp,?_⟩;have pL:=(T.fnd.same s4).at_;have keep:∀b o,b≠a->H4 b=some o->H6 b=some o:=fun b o hb e=>by rw[o6 b hb];exact s5 _ _ e
   have nr0:r0≠a:=fun z=>by rw[z,pL] at i5;cases i5
   have np2:p2≠a:=fun z=>by have h:=cX;unfold Tr at h;rw[z,pL] at h;cases h
   have nc:c≠a:=FE T.fnd aB;have nd:d≠a:=FE T.fnd T.at_;have jN:=keep _ _ nr0 i5;have oQ:=keep _ _ np2 cX;refine⟨_,rfl,r0,_,_,_,rfl,rfl,SqT.of jN,zh (j:=1) rfl,p2,_,_,_,rfl,rfl,SqT.of oQ,zh (j:=1) rfl,_,rfl,_,rfl,r0,_,_,_,rfl,rfl,SqT.of jN,zh (j:=1) rfl,p2,_,_,_,rfl,rfl,SqT.of oQ,zh (j:=2) rfl,_,rfl,c,d,_,_,_,_,rfl,keep _ _ nc (s4 _ _ aB),keep _ _ nd (s4 _ _ T.at_),ω,fun x hx=>Z Mi.c1 (er x hx),fun x hx=>Z Mi.d1 (el x hx),fun m H7 s7 iu hm=>?_⟩;have eG:Pls (b5 es q e) PP:=⟨by rw[CW,if_pos hqe];exact T.pls.pm,T.pls.so⟩;have nk:(b5 es q e).length<64:=by have:=eG.len;have:=T.pls.len;(first|lia|omega)
   refine⟨_,rfl,_,rfl,a,d0 (b5 es q e),rfl,(F6.same s7).at_,(by simpa using nk),fun PL ms pm so dE=>?_⟩;rw[eG.ints pm so];have sP:=Same.new (o:=.lst (PP.map fun p:Nat=>V.int (p:Int))) dE;have W2:Wid W PP (bH fr q (ba a1 (fr q) b1 I)):=T.wid.put (by unfold ba;rw[AF];(first|lia|omega));have lm:(ba c1 (fr q) d1 I).length=W:=by unfold ba;rw[AF];(first|lia|omega)
   have ef:vF (bH fr q (ba a1 (fr q) b1 I))=Tb.put (vF fr) q (Tb.mix a1 (vF fr q) b1 (vc I)):=by rw[EV,Ip ω];rfl
   have em:vc (ba c1 (fr q) d1 I)=Tb.mix c1 (vF fr q) d1 (vc I):=by rw[Ip ω];rfl
   rw[<-ef,<-em] at Mi T2;have wp:j7 (bH fr q (ba a1 (fr q) b1 I)) W (ba c1 (fr q) d1 I) PP:=FC L.hR eL Mi.fr Mi.ech.pos (fun p hp=>pv (Mi.piv p hp)) W2 lm Mi.met L.lim;refine⟨m,a,PL,_,b5 es q e,bH fr q (ba a1 (fr q) b1 I),PP,W,rfl,sP _ _ hm,(F6.same s7).same sP,za,fun p hp=>eG.pm.mem_iff.mp hp,wp,fun d2 H9 s9 iD=>?_⟩;rw[<-oa (W:=W) lm fun p hp=>(W2.row p hp).2] at T2;obtain⟨q',q1,q2,q3,q4,q5⟩:=Iq (T2.nz L.bd.ind L.hR);have l9:(aN (bH fr q (ba a1 (fr q) b1 I)) (ba c1 (fr q) d1 I) PP).length=W:=nW lm fun p hp=>(W2.row p hp).2;have qq:q+1<=q':=Nat.le_of_not_lt fun h=>q5 (T2.low q' h);refine⟨_,rfl,d2,_,q',rfl,iD,q2,q3,?_⟩;refine⟨W-q',ω,d2,q',_,b5 es q e,bH fr q (ba a1 (fr q) b1 I),q+1,_,_,rfl,rfl,⟨?_,((F6.same s7).same sP).same s9,eG,W2,iD,l9,T2,qq,ω,q4,q5⟩⟩;exact T.fra.trans ((Fra.of s4).trans ((show Fra a H4 H6 from keep).trans (.of ((s7.trans sP).trans s9))))
  ·refine⟨_,rfl,_,rfl,a,_,rfl,T.fnd.no (fun h=>hq (T.pls.pm.mem_iff.mpr h)),_,rfl,?_⟩
   have uS:=T.len;have mW:=T.wid.most;refine aR ⟨_,rfl,_,rfl,d,_,_,_,rfl,rfl,SqL.of T.at_,zh (fM (by have:=T.qW;(first|lia|omega))),_,_,rfl,rfl,_,rfl,?_⟩;apply share (S:=fun u H4=>Same H3 H4/\H4 u=some (.lst ((hE I q).map V.int)))
   ·intro fin hc
    refine⟨_,rfl,d,rfl,⟨_,SqL.of T.at_⟩,fun D hD=>zy (zY (xs:=I.map V.int) (fun j σ ys H4=>∃v,σ=[v]/\Same H3 H4/\H4 D=some (.lst ys)/\ys=((I.take j).map fun x=>-x).map V.int) ⟨none,rfl,Same.new hD,za,rfl⟩ ?_ ?_ ?_)⟩
    ·rintro j σ ys H4 ⟨v,rfl,sm,_⟩
     exact SqL.of (sm _ _ T.at_)
    ·rintro j σ ys H4 x hx hj hy ⟨v,rfl,sm,cr,rfl⟩
     obtain⟨y,gy,rfl⟩:=eV hx;refine cf ⟨_,rfl,_,rfl,bB (by rw[Aa];exact zp ω) hj hy cr ⟨_,rfl,sm.then hD,za,?_⟩⟩;rw[A8 gy,Aq,Aq];rfl
    ·rintro σ ys H4 ⟨v,rfl,sm,cr,rfl⟩
     refine fin D H4 ⟨sm,?_⟩;rw[cr,Aa,An (Ae _)];unfold hE;rw[if_neg fun h=>hc (decide_eq_true h)]
   ·intro fin hc
    refine⟨_,rfl,fin d H3 ⟨Same.refl _,?_⟩⟩;unfold hE;rw[if_pos (of_decide_eq_true hc)];exact T.at_
   ·rintro u H4 ⟨s4,nh⟩
    have S0:=T.ts.full L.hB hq T.low T.nz;have hqe:q∉es.map (·.1):=fun h=>hq (T.pls.pm.mem_iff.mpr h);have F4:=T.fnd.same s4;have BT:=T.pls.len;have zP:=FS.len;have zN:=L.few;obtain⟨H5,dp,F5,o5⟩:=F4.put (H2:=H4) (p:=q) nh ω;refine⟨_,rfl,_,rfl,a,H5,rfl,dp,?_⟩;have lu:(hE I q).length=W:=by rw[Oq];exact T.len
    have ef:vF (bH fr q (hE I q))=Tb.put (vF fr) q (Tb.up (vc I) q):=by rw[EV,Op]
    rw[<-ef] at S0;have dC:Pls (b5 es q u) (Tb.ins q PP):=⟨by rw[CW,if_neg hqe];exact Jc.trans (T.pls.pm.append_right [q]),S0.srt.imp fun h=>Nat.le_of_lt h⟩;have gG:Wid W (Tb.ins q PP) (bH fr q (hE I q)):=by
     refine⟨mW,fun p hp=>?_⟩;unfold bH;rcases Tb.mem_ins.mp hp with rfl|h
     ·rw[if_pos rfl];exact⟨T.qW,lu⟩
     ·have:p≠q:=fun z=>hq (z▸h)
      rw[if_neg this];exact T.wid.row p h
    have fra5:Fra a H H5:=T.fra.trans ((Fra.of s4).trans fun b o hb e=>by rw[o5 b hb];exact e);have lQ:(Tb.ins q PP).length=PP.length+1:=Tb.ES;clear o5 dp F4 nh s4 ef;generalize bH fr q (hE I q)=f0 at S0 F5 gG;generalize b5 es q u=es0 at F5 dC;generalize Tb.ins q PP=QQ at S0 dC gG lQ;refine⟨_,rfl,a,d0 es0,rfl,F5.at_,(by have:=dC.len;simp;(first|lia|omega)),fun PL ms pm so dE=>?_⟩;rw[dC.ints pm so];have sP:=Same.new (o:=.lst (QQ.map fun p:Nat=>V.int (p:Int))) dE;refine⟨_,rfl,PL,_,rfl,.inl (SqL.of za),_,_,rfl,rfl,_,rfl,_,rfl,_,_,rfl,⟨by rw[Aa];(first|lia|omega),by rw[Aa];(first|lia|omega),ω,ω⟩,?_⟩;have i8:(((QQ.map fun p:Nat=>V.int (p:Int)).length:Nat):Int)=(QQ.length:Int):=by rw[Aa]
    refine I_ (fun i σ H6=>∃(es:List (Nat×Addr))(fr:Nat->List Int)(v7:Option V),σ=[some (.ref a),some (.ref r),some (.ref d),some (.int q),v4,v5,some (.ref PL),v7]/\Fra a H H6/\Fnd H6 a es fr/\Pls es QQ/\Wid W QQ fr/\H6 PL=some (.lst (QQ.map fun p:Nat=>V.int (p:Int)))/\vF fr=Tb.a9 (vF f0) (QQ.drop (QQ.length-i)))
     ⟨es0,f0,none,rfl,fra5.trans (.of sP),F5.same sP,dC,gG,za,by rw[Nat.sub_zero,List.drop_length];rfl⟩ ?_ ?_
    ·rintro i σ H6 hi ⟨j0,f6,v7,rfl,gI,F6,cq,cj,c7,hv⟩
     have hiQ:i<QQ.length:=ω
     obtain⟨O,jW⟩:∃O,O=QQ.length-1-i:=⟨_,rfl⟩;have jF:O<QQ.length:=ω
     rw[show(((QQ.map fun p:Nat=>V.int (p:Int)).length:Nat):Int)-1-((i:Nat):Int)=((O:Nat):Int) by rw[i8];(first|lia|omega)];have gk:(QQ.map fun p:Nat=>V.int (p:Int))[O]?=some (V.int ((QQ[O]:Nat):Int)):=by rw[Aj,Ac jF];rfl
     have eQ:QQ=QQ.take O++QQ[O]::QQ.drop (O+1):=by rw[<-List.drop_eq_getElem_cons jF,List.take_append_drop]
     have ed:QQ.drop (QQ.length-i)=QQ.drop (O+1):=by rw[show QQ.length-i=O+1 from ω]
     have ed2:QQ.drop (QQ.length-(i+1))=QQ[O]::QQ.drop (O+1):=by rw[show QQ.length-(i+1)=O from ω];exact List.drop_eq_getElem_cons jF
     rw[ed] at hv;rw[ed2];have gZ:QQ[O]∈QQ:=AI jF;have sub:∀p∈QQ.drop (O+1),p∈QQ:=fun p hp=>List.mem_of_mem_drop hp;generalize i7:QQ.drop (O+1)=ps at eQ hv ed ed2 sub ⊢;generalize QQ[O]=p at gk eQ ed2 gZ ⊢;have xa:p∉ps:=fun h=>by
      have s:=S0.srt;rw[eQ,List.pairwise_append] at s;exact Nat.lt_irrefl p ((List.pairwise_cons.mp s.2.1).1 p h)
     obtain⟨e1,bd,rp⟩:=S0.tail L.hB L.bd (pre:=QQ.take O++[p]) (ps:=ps) (by rw[List.append_assoc];exact eQ);have cc:Tb.cC N X B<=Tb.cE N M X B:=Ag (by unfold Tb.cK;(first|lia|omega)) (Ag (Tb.FB L.hB) Tb.oA);have qh:vc (f6 p)=vF f0 p:=by
      have:vF f6 p=vF f0 p:=by rw[hv,Tb.Ik xa]
      exact this
     have ok6:j7 f6 W (f6 p) ps:=by
      refine FC (CE:=Tb.cE N M X B) L.hR eL (fun U J=>?_) (fun U J=>?_) (fun U J=>?_) (cj.sub sub) (cj.row p gZ).2 (fun j=>?_) L.lim
      ·rw[hv];exact(rp U J).mono cc
      ·rw[hv];exact e1.pos U J
      ·rw[hv];exact pv (bd U J U (sub U J))
      ·rw[hv,qh];exact S0.met L.hB L.bd eQ j
     obtain⟨c,hc,gc,aB⟩:=F6.get (cq.pm.mem_iff.mp gZ);refine⟨_,rfl,_,rfl,_,rfl,PL,_,_,_,rfl,rfl,SqL.of c7,zh gk,a,_,rfl,gc,_,rfl,_,rfl,_,rfl,_,_,rfl,rfl,_,rfl,PL,_,rfl,SqL.of c7,fun SL re=>?_⟩;rw[show((O:Nat):Int)+1=((O+1:Nat):Int) from ω,hA,<-List.map_drop,i7];have sS:=Same.new (o:=.lst (ps.map fun p:Nat=>V.int (p:Int))) re;refine⟨c,a,SL,f6 p,j0,f6,ps,W,rfl,sS _ _ aB,F6.same sS,za,fun U J=>cq.pm.mem_iff.mp (sub U J),ok6,fun D H8 s8 kW=>?_⟩;have z6:=cq.len;obtain⟨H9,dp,F9,o9⟩:=((F6.same sS).same s8).put (H2:=H8) (p:=p) kW ω;have uL:PL≠a:=FE F6 c7;refine⟨_,rfl,_,rfl,_,rfl,PL,_,_,_,rfl,rfl,SqL.of ((sS.trans s8) _ _ c7),zh gk,a,H9,rfl,dp,b5 j0 p D,bH f6 p (aN f6 (f6 p) ps),_,rfl,?_,F9,⟨?_,cq.so⟩,?_,?_,?_⟩
     ·exact gI.trans ((Fra.of (sS.trans s8)).trans fun b o hb e=>by rw[o9 b hb];exact e)
     ·rw[CW,if_pos (cq.pm.mem_iff.mp gZ)];exact cq.pm
     ·exact cj.put (nW (cj.row p gZ).2 fun U J=>(cj.row U (sub U J)).2)
     ·rw[o9 PL uL];exact(sS.trans s8) _ _ c7
     ·rw[EV,oa (cj.row p gZ).2 (fun U J=>(cj.row U (sub U J)).2),hv,qh];rfl
    ·rintro σ H6 ⟨j0,f6,v7,rfl,gI,F6,cq,cj,c7,hv⟩
     rw[show QQ.length-((((QQ.map fun p:Nat=>V.int (p:Int)).length:Nat):Int)-1 - -1).toNat=0 by rw[i8];(first|lia|omega),List.drop_zero] at hv;refine k H6 j0 f6 QQ gI F6 cq cj ?_;rw[hv];exact S0.done L.hB L.bd
end
abbrev jo:Stmt:=top 33
section
variable{P:Program}{w:World}{K:Af}{mg:Str->Option Value}{base:Heap}
structure Je(N M X B Y W:Nat)(tb:Ξ):Prop where
 most:W<=1000
 few:tb.length<=N
 len:∀r∈tb,r.length=W
 lim:∀i,i<tb.length->Jb N M X B Y ((tb.take (i+1)).map vc)
 row:∀i r,tb[i]?=some r->∀Q f,Tb.FS N M X B ((tb.take i).map vc) Q f->∀p∈Q,(vc r p).natAbs<=M
def Jf:Sp:=fun vs H Q _=>∃(L:Addr)(rs:List Addr)(tb:Ξ)(N M X B Y W:Nat),vs=[.ref L]/\H L=some (.lst (rs.map V.ref))/\Rws H rs tb/\Je N M X B Y W tb/\
 ∀a H' es fr P,Same H H'->H a=none->Fnd H' a es fr->Pls es P->Wid W P fr->Tb.FS N M X B (tb.map vc) P (vF fr)->Q (.ref a) H'
def FF:zm ["rows","found","row"] ["rows"] (ze jo):=⟨rfl,rfl,rfl,δ,rfl,δ,δ⟩
def Fra.same{a:Addr}{H H1 H2:Hp}{o:HO}(h:Fra a H1 H2)(e:H1=upd H a o)(c:H a=none):Same H H2:=fun b v hb=>by
 have n:b≠a:=fun z=>by rw[z,c] at hb;cases hb
 exact h b v n (by rw[e,ao n];exact hb)
def Ot{f q:Addr}{fd r:FuncData}(F:Fun K "echelon_of" "echelon_of" jo f fd)(Ft:Fun K "take_in" "take_in" C5 q r)(bt:Binds K r ["found","row"] [])(mt:mg "take_in"=some (.ref q))(Gt:ar P w K mg base aK 3 q r ["found","row"] Jd):ar P w K mg base aK 4 f fd ["rows"] Jf:=by
 refine F.ok FF (fun vs H Q E h=>?_) (fun ai A outer s H vs Q E hr h=>?_)
 ·obtain⟨L,rs,tb,N,M,X,B,Y,W,rfl,_⟩:=h;rfl
 ·obtain⟨L,rs,tb,N,M,X,B,Y,W,rfl,v,y,ok,k⟩:=h
  refine⟨_,zb (zj (i:=1) FF.nd rfl (Or.inl rfl) Me)
   (zb (fh A0 rfl (zF (pv 0)) (zl (i:=2) FF.nd rfl (Or.inl rfl))
    (zg (mO (zf Gt hr rfl mt Ft.kp bt .nil ak (af (pv 1) (af (pv 2) ah))))))
   (zg (zq (pv 1)))),?_⟩
  refine fun a d=>⟨_,rfl,L,rfl,⟨_,SqL.of (Same.new d _ _ v)⟩,mS (K:=K) (a:=L) (xs:=rs.map V.ref) (fun i σ H2=>∃(j:Option V)(es:List (Nat×Addr))(fr:Nat->List Int)(c:List Nat),σ=[some (.ref L),some (.ref a),j]/\Fra a (upd H a (.dK [])) H2/\Fnd H2 a es fr/\Pls es c/\Wid W c fr/\Tb.FS N M X B ((tb.take i).map vc) c (vF fr))
   ⟨none,[],fun _=>[],[],rfl,fun _ _ _ e=>e,⟨za,List.nodup_nil,fun e C=>nomatch C⟩,⟨.refl _,.nil⟩,⟨ok.most,fun p hp=>nomatch hp⟩,Tb.FS.start⟩ (fun i σ H2 _ ⟨_,_,_,_,_,b,_⟩=>SqL.of ((b.same rfl d) _ _ v)) ?_ ?_⟩
  ·rintro i x σ H2 hx ⟨j,es,fr,c,rfl,b,u,pls,l,FS⟩
   obtain⟨o,T,rfl⟩:=iv hx;obtain⟨rn,g,U⟩:=y.get T;have hi:i<tb.length:=(List.getElem?_eq_some_iff.mp g).1;have z:=ok.lim i hi;rw[A8 g,Aq] at z;have Z:=ok.few;refine⟨_,rfl,_,rfl,a,o,rn,es,fr,c,N,M,X,B,Y,W,_,rfl,(b.same rfl d) _ _ U,u,pls,l,ok.len rn (Am g),FS,by rw[Aa,List.length_take];(first|lia|omega),ok.row i rn g c (vF fr) FS,z,fun H3 D G P3 I F3 J O S=>?_⟩;refine⟨_,D,G,P3,rfl,b.trans I,F3,J,O,?_⟩;rw[A8 g,Aq];exact S
  ·rintro σ H2 ⟨j,es,fr,c,rfl,b,u,pls,l,FS⟩
   have aZ:=y.len;rw[Aa,aZ,An (Ae _)] at FS;exact⟨_,rfl,k a H2 es fr c (b.same rfl d) d u pls l FS⟩
end
end K22
end
section
namespace L2
open PySem PySem.Spec PyProof.Rows
def Ou{K:Af}{c d:Addr}{xs ys:List V}{g:TG}{tb:TS}{D:Ends}{σ:St}{H:Hp}(a:Nat->St->Hp->Prop)(v:a 0 σ H)(w:∀i σ H,a i σ H->SqL K H c xs/\SqL K H d ys)(z:∀i x y p σ H,xs[i]?=some x->ys[i]?=some y->H p=none->a i σ H->g (.ref p) σ (upd H p (.tup [x,y])) fun f H2=>tb {D with nx:=a (i+1),ct:=a (i+1),bk:=D.nx} f H2)(hd:∀σ H,a (min xs.length ys.length) σ H->D.nx σ H):∃W:Nat->Nat->St->Hp->Prop,(∃m,W 0 m σ H)/\∀i m σ H,W i m σ H->
   ((dy K c d).stop i H/\D.nx σ H)\/((dy K c d).go i H/\∃N:St->Hp->Prop,(∀h H',N h H'->∃o,o<m/\W (i+1) o h H')/\∀x H',(dy K c d).yld i H x H'->g x σ H' fun f H2=>tb {D with nx:=N,ct:=N,bk:=D.nx} f H2):=by
 refine⟨fun i m σ H=>m=min xs.length ys.length-i/\i<=min xs.length ys.length/\a i σ H,⟨_,rfl,AB _,v⟩,?_⟩;rintro i m σ H ⟨rfl,hi,p⟩;obtain⟨j,l⟩:=w i σ H p
 by_cases b:i<min xs.length ys.length
 ·refine .inr ⟨⟨xs,ys,j,l,b⟩,a (i+1),fun h H' q=>⟨_,ω,rfl,b,q⟩,fun x H' y=>?_⟩
  obtain⟨pp,x,r,rfl,hp,rfl,s,u⟩:=y;exact z i x r pp σ H (s xs j) (u ys l) hp p
 ·have e:i=min xs.length ys.length:=ω
  subst e;exact .inl ⟨⟨xs,ys,j,l,rfl⟩,hd σ H p⟩
end L2
namespace K22
open PySem L2
abbrev jp:Stmt:=top 40
def b_(l:List Int)(x:Int×List Int):List Int:=cV l (-x.1) x.2
def fN(w:Nat)(ns:List Int)(tb:Ξ):List Int:=(ns.zip tb).foldl b_ (Au w 0)
def Jg{l:List Int}{x:Int×List Int}{w:Nat}(h:l.length=w)(h2:x.2.length=w):(b_ l x).length=w:=by unfold b_ cV;rw[AF];(first|lia|omega)
def Ov{l row:List Int}(h:l.length=row.length):b_ l (0,row)=l:=EQ h
def FG{w:Nat}:∀{zs:List (Int×List Int)}{l:List Int},l.length=w->(∀z∈zs,z.2.length=w)->(zs.foldl b_ l).length=w
 |[],_,h,_=>h
 |z::zs,l,h,h2=>FG (zs:=zs) (Jg h (h2 z (At ..))) fun y hy=>h2 y (Ay _ hy)
section
variable{P:Program}{w:World}{K:Af}{mg:Str->Option Value}{base:Heap}
def FH:Sp:=fun vs H Q _=>∃(a L:Addr)(ns:List Int)(rs:List Addr)(tb:Ξ),vs=[.ref a,.ref L]/\H a=some (.lst (ns.map V.int))/\H L=some (.lst (rs.map V.ref))/\Rws H rs tb/\wid tb<=1000/\(∀r∈tb,r.length=wid tb)/\
 (∀z∈ns.zip tb,∀x∈z.2,ey (-z.1) x)/\nV H Q (fN (wid tb) ns tb)
def tL:zm ["numbers","rows","told","often","row"] ["numbers","rows"] (ze jp):=⟨rfl,rfl,rfl,δ,rfl,δ,δ⟩
def Ow{f v C:Addr}{fd G I:FuncData}(F:Fun K "mix_of" "mix_of" jp f fd)(bz:mg "zip"=none)(Fw:Fun K "width_of" "width_of" kT v G)(bw:Binds K G ["table"] [])(mw:mg "width_of"=some (.ref v))(Gw:ar P w K mg base aK 1 v G ["table"] (nK K))(Fl:Fun K "less" "less" j4 C I)(bl:Binds K I ["row","often","other"] [])(ml:mg "less"=some (.ref C))(Gl:ar P w K mg base aK 1 C I ["row","often","other"] sy):ar P w K mg base aK 2 f fd ["numbers","rows"] FH:=by
 refine F.ok tL (fun vs H Q E h=>?_) (fun ai A outer s H vs Q E hr h=>?_)
 ·obtain⟨a,L,ns,rs,tb,rfl,_⟩:=h;rfl
 ·obtain⟨a,L,ns,rs,tb,rfl,M,c,g,hw,N,hm,k⟩:=h
  refine⟨_,zb (zj (i:=2) tL.nd rfl (Or.inl rfl) (zt Ei (zX (af zd ah)) (zf Gw hr rfl mw Fw.kp bw .nil ak (af (pv 1) ah))))
   (zb (fh A0 rfl (rK rfl bz nR (af (pv 0) (af (pv 1) ah))) (jM rfl (zM (zl (i:=3) tL.nd rfl (Or.inl rfl)) (zM (zl (i:=4) tL.nd rfl (Or.inl rfl)) jK)))
    (zg (cT (zw ik (pv 3) zd (av _))
     (zg (zj (i:=2) tL.nd rfl (Or.inl rfl) (zf Gl hr rfl ml Fl.kp bl .nil ak (af (pv 2) (af (fS fU (pv 3)) (af (pv 4) ah)))))) zL)))
   (zg (zq (pv 2)))),?_⟩
  refine⟨ξ,fun Z U=>?_⟩;have b:=Same.new (o:=.lst [.int 0]) U;refine⟨_,rfl,L,rs,tb,rfl,SqL.of (b _ _ c),g.same b,Z,_,_,rfl,rfl,za,ω,ω,(by rw[sizeLine_eq];simp;(first|lia|omega)),fun T J=>?_⟩;have sT:=Same.new (o:=.lst (Au ((wid tb:Nat):Int).toNat [V.int 0]).flatten) J;have r:=b.trans sT;have eE:H T=none:=b.free J;have eT:(Au ((wid tb:Nat):Int).toNat [V.int 0]).flatten=(Au (wid tb) (0:Int)).map V.int:=by
   rw[Int.toNat_natCast,List.map_replicate];generalize wid tb=n
   induction n with
   |zero=>rfl
   |succ n ih=>rw[List.replicate_succ,List.flatten_cons,ih,List.replicate_succ];rfl
  have aZ:=g.len;refine⟨_,rfl,_,rfl,a,L,rfl,⟨_,SqL.of (r _ _ M)⟩,⟨_,SqL.of (r _ _ c)⟩,Ou (K:=K) (xs:=ns.map V.int) (ys:=rs.map V.ref) (fun i σ H2=>∃(d:Addr)(j l:Option V),σ=[some (.ref a),some (.ref L),some (.ref d),j,l]/\Same H H2/\H d=none/\H2 d=some (.lst ((((ns.zip tb).take i).foldl b_ (Au (wid tb) 0)).map V.int)))
   ⟨T,none,none,rfl,r,eE,by rw[za,eT];rfl⟩ (fun i σ H2 ⟨_,_,_,_,sm,_⟩=>⟨SqL.of (sm _ _ M),SqL.of (sm _ _ c)⟩) ?_ ?_⟩
  ·rintro i x y p σ H2 hx hy hp ⟨d,j,l,rfl,sm,q,hd⟩
   obtain⟨n,gn,rfl⟩:=eV hx;obtain⟨o,eo,rfl⟩:=iv hy;obtain⟨row,O,ho⟩:=g.get eo;have u:(ns.zip tb)[i]?=some (n,row):=by rw[List.getElem?_zip_eq_some];exact⟨gn,O⟩
   have S:∀z∈ns.zip tb,z.2.length=wid tb:=fun z hz=>N z.2 (List.of_mem_zip hz).2;have ll:(((ns.zip tb).take i).foldl b_ (Au (wid tb) 0)).length=wid tb:=FG (by simp) fun z hz=>S z (List.mem_of_mem_take hz);have sp:=Same.new (o:=.tup [V.int n,V.ref o]) hp;have e2:((ns.zip tb).take (i+1)).foldl b_ (Au (wid tb) 0)=b_ (((ns.zip tb).take i).foldl b_ (Au (wid tb) 0)) (n,row):=by rw[A8 u,List.foldl_append];rfl
   refine⟨p,_,rfl,SqT.of za,rfl,_,_,rfl,_,_,rfl,rfl,_,rfl,rfl,_,rfl,?_⟩
   by_cases z:n=0
   ·rw[show(!decide (V.int n=V.int 0))=false by rw[z];rfl]
    refine aR ⟨d,_,_,rfl,sm.trans sp,q,?_⟩;rw[e2,z,Ov (by rw[ll];exact(S _ (Am u)).symm)];have h:=sp _ _ hd;rw[z] at h;exact h
   ·rw[show(!decide (V.int n=V.int 0))=true by rw[decide_eq_false (fun e=>z (by injection e))];rfl]
    refine aW ⟨_,rfl,_,rfl,_,rfl,_,rfl,d,o,_,row,-n,rfl,sp _ _ hd,sp _ _ (sm _ _ ho),by rw[N row (Am O)];exact hw,fun x hx=>hm _ (Am u) x hx,fun D H4 W X Y=>?_⟩;refine⟨D,_,_,rfl,(sm.trans sp).trans W,(sm.trans sp).free X,?_⟩;rw[e2];exact Y
  ·rintro σ H2 ⟨d,j,l,rfl,sm,q,hd⟩
   refine⟨_,rfl,k d H2 sm q ?_⟩;rw[hd,An (by rw[List.length_zip,Aa,Aa,aZ];exact Ae _)]
   rfl
end
end K22
end
section
namespace K22
open PySem L2
abbrev tM:Stmt:=top 22
def bM(ns:List Int)(k w:Nat):List Int:=if k<ns.length then(Au w (0:Int)).set k (ns.getD k 0) else Au w 0
def Ox{w:Nat}:(Au ((w:Nat):Int).toNat [V.int 0]).flatten=(Au w (0:Int)).map V.int:=by
 rw[Int.toNat_natCast,List.map_replicate]
 induction w with
 |zero=>rfl
 |succ n ih=>rw[List.replicate_succ,List.flatten_cons,ih,List.replicate_succ];rfl
section
variable{P:Program}{w:World}{K:Af}{mg:Str->Option Value}{base:Heap}
def tO:Sp:=fun vs H Q _=>∃(a:Addr)(ns:List Int)(b c:Nat),vs=[.ref a,.int b,.int c]/\H a=some (.lst (ns.map V.int))/\c<=1000/\(b<ns.length->b<c)/\nV H Q (bM ns b c)
def Jh:zm ["numbers","k","width","row"] ["numbers","k","width"] (ze tM):=⟨rfl,rfl,rfl,δ,rfl,δ,δ⟩
def Oy{f:Addr}{fd:FuncData}(F:Fun K "slope_row" "slope_row" tM f fd)(v:mg "len"=none):ar P w K mg base aK 1 f fd ["numbers","k","width"] tO:=by
 refine F.ok Jh (fun vs H Q E h=>?_) (fun x A outer s H vs Q E hr h=>?_)
 ·obtain⟨a,ns,b,j,rfl,_⟩:=h;rfl
 ·obtain⟨a,ns,b,j,rfl,l,hw,hk,k⟩:=h
  refine⟨_,zb (zj (i:=3) Jh.nd rfl (Or.inl rfl) (zt Ei (zX (af zd ah)) (pv 2)))
   (zb (cT (zw p_ (pv 1) (zi zo rfl v Ja (af (pv 0) ah)) (av _))
    (zg (jP (zu zr (pv 0) (pv 1) (fun _ _=>rfl)) (jO (pv 3) (pv 1) set_list))) zL)
   (zg (zq (pv 3)))),?_⟩
  refine⟨ξ,fun Z q=>?_⟩;have p:=Same.new (o:=.lst [.int 0]) q;refine⟨_,rfl,Z,_,_,rfl,rfl,za,ω,ω,(by rw[sizeLine_eq];simp;(first|lia|omega)),fun T g=>?_⟩;rw[Ox];have r:=Same.new (o:=.lst ((Au j (0:Int)).map V.int)) g;have d:=p.trans r;have e:H T=none:=p.free g;refine⟨_,rfl,_,rfl,a,_,rfl,.inl (SqL.of (d _ _ l)),_,_,rfl,rfl,_,rfl,?_⟩;rw[Aa]
  by_cases c:b<ns.length
  ·rw[decide_eq_true (show((b:Nat):Int)<((ns.length:Nat):Int) from ω)]
   have c2:=hk c;have u:(ns.map V.int)[b]?=some (V.int (ns.getD b 0)):=fM c;refine aW ⟨_,rfl,_,rfl,a,_,_,_,rfl,rfl,SqL.of (d _ _ l),zh u,_,rfl,_,rfl,T,_,_,b,rfl,rfl,za,?_,?_⟩
   ·unfold eR
    rw[Aa,List.length_replicate];simp[c2]
   ·refine⟨_,rfl,k T _ (d.then e) e ?_⟩
    unfold bM;rw[if_pos c,za,List.map_set]
  ·rw[decide_eq_false (show ¬((b:Nat):Int)<((ns.length:Nat):Int) from ω)]
   refine aR ⟨_,rfl,k T _ d e ?_⟩;unfold bM;rw[if_neg c,za]
end
end K22
end
section
namespace K22
open PySem L2
abbrev tU:Stmt:=top 21
abbrev C6:Stmt:=top 29
def slpT(ns:List Int)(n w:Nat):Ξ:=(Ah n).map fun k=>bM ns k w
section
variable{P:Program}{w:World}{K:Af}{mg:Str->Option Value}{base:Heap}
def Ji:Sp:=fun vs H Q _=>∃(a:Addr)(ns:List Int)(n b:Nat),vs=[.ref a,.int n,.int b]/\H a=some (.lst (ns.map V.int))/\n<=1000/\b<=1000/\(∀k,k<n->k<ns.length->k<b)/\Cg H Q (slpT ns n b)
def Oz:zm ["numbers","size","width"] ["numbers","size","width"] (ze tU):=⟨rfl,rfl,rfl,δ,rfl,δ,δ⟩
def OA{f fs:Addr}{fd l:FuncData}(F:Fun K "on_slope" "on_slope" tU f fd)(G:mg "range"=none)(Fs:Fun K "slope_row" "slope_row" tM fs l)(bs:Binds K l ["numbers","k","width"] [])(ms:mg "slope_row"=some (.ref fs))(L:ar P w K mg base aK 1 fs l ["numbers","k","width"] tO):ar P w K mg base aK 2 f fd ["numbers","size","width"] Ji:=by
 refine F.ok Oz (fun vs H Q E h=>?_) (fun M A outer s H vs Q E hr h=>?_)
 ·obtain⟨a,ns,n,e,rfl,_⟩:=h;rfl
 ·obtain⟨a,ns,n,e,rfl,z,hn,hw,hk,k⟩:=h
  refine⟨_,zg (zq (zx ["numbers","size","width"] ["k","numbers","width"] [none,some 0,some 2] (kn rfl G (af (pv 1) ah)) (fun o C s₀ H₀ ex=>zl (i:=0) (bF ["k","numbers","width"]) rfl (Or.inl rfl)) (fun o C s₀ H₀ ex=>zA)
   (fun o C s₀ H₀ ex=>zf L hr rfl ms Fs.kp bs .nil ak (af (pv 1) (af (pv 0) (af (pv 2) ah)))) (te:=fY tO [] E0 (zO (aw 1) (zO (aw 0) (zO (aw 2) bL)))) (hfr:=a_ (ze tU) δ))),?_⟩
  refine⟨_,rfl,_,rfl,ω,ω,fun D p=>?_⟩;refine HS (n:=n) (g:=fun k=>bM ns k e) (fun j H' R q sm r=>⟨_,rfl,_,rfl,_,rfl,a,ns,j,e,rfl,sm _ _ z,hw,hk j q,fun d I u hd v=>r d I u hd v⟩) ω p fun J ds x b c y hn=>k D J ds x p b c y hn
def unT(n:Nat):Ξ:=slpT (Au n 1) n n
def Jj:Sp:=fun vs H Q _=>∃n:Nat,vs=[.int n]/\n<=1000/\Cg H Q (unT n)
def OB:zm ["size"] ["size"] (ze C6):=⟨rfl,rfl,rfl,δ,rfl,δ,δ⟩
def OC{w:Nat}:(Au ((w:Nat):Int).toNat [V.int 1]).flatten=(Au w (1:Int)).map V.int:=by
 rw[Int.toNat_natCast,List.map_replicate]
 induction w with
 |zero=>rfl
 |succ n ih=>rw[List.replicate_succ,List.flatten_cons,ih,List.replicate_succ];rfl
def OD{f fs:Addr}{fd c:FuncData}(F:Fun K "unit" "unit" C6 f fd)(Fs:Fun K "on_slope" "on_slope" tU fs c)(bs:Binds K c ["numbers","size","width"] [])(ms:mg "on_slope"=some (.ref fs))(r:ar P w K mg base aK 2 fs c ["numbers","size","width"] Ji):ar P w K mg base aK 3 f fd ["size"] Jj:=by
 refine F.ok OB (fun vs H Q E h=>?_) (fun u A outer s H vs Q E hr h=>?_)
 ·obtain⟨n,rfl,_⟩:=h;rfl
 ·obtain⟨n,rfl,hn,k⟩:=h
  refine⟨_,zg (zq (zf r hr rfl ms Fs.kp bs .nil ak (af (zt Ei (zX (af zd ah)) (pv 0)) (af (pv 0) (af (pv 0) ah))))),?_⟩;refine⟨ξ,fun Z e=>?_⟩;have p:=Same.new (o:=.lst [.int 1]) e;refine⟨_,rfl,Z,_,_,rfl,rfl,za,ω,ω,(by rw[sizeLine_eq];simp;(first|lia|omega)),fun T g=>?_⟩;rw[OC];have q:=Same.new (o:=.lst ((Au n (1:Int)).map V.int)) g;have b:=p.trans q;refine⟨_,rfl,_,rfl,T,_,n,n,rfl,za,hn,hn,fun k hk _=>hk,fun D H' ds sm i j hr l a=>?_⟩;exact k D H' ds (b.trans sm) (b.free i) j hr l fun d hd=>⟨b.free (a d hd).1,(a d hd).2⟩
end
end K22
end
section
namespace K22
open PySem L2
section
variable{P:Program}{w:World}{K:Af}{mg:Str->Option Value}{base:Heap}
def OE{H2:Hp}{s L2 D:Addr}{rs ss:List Addr}{tb ub:Ξ}{Q:VK}{g:List Int->List Int->List Int}{te:TE}{c:List (Option V)}(F:∀(o u:Addr)(os us:List Int)(H:Hp)(R:VK),Same H2 H->H o=some (.lst (os.map V.int))->H u=some (.lst (us.map V.int))->os∈tb->us∈ub->(∀d H',Same H H'->H d=none->H' d=some (.lst ((g os us).map V.int))->R (.ref d) H')->te (some (.ref o)::some (.ref u)::c) H R)(h1:H2 s=some (.lst (rs.map V.ref)))(h2:H2 L2=some (.lst (ss.map V.ref)))(q:Rws H2 rs tb)(hu:Rws H2 ss ub)(hz:ub.length<=1000)(r:H2 D=none)(k:∀a ds,Same H2 a->a D=some (.lst (ds.map V.ref))->Rws a ds (AH g tb ub)->ds.Nodup->(∀d∈ds,H2 d=none/\d≠D)->Q (.ref D) a):cm (dy K s L2) (cw K 2 (cz (zH 0) (cz (zH 1) cv))) bx te (none::none::c) H2 D Q:=by
 have l1:=q.len;have l2:=hu.len;refine EJ (K:=K) (xs:=rs.map V.ref) (ys:=ss.map V.ref) (fun i σ zs a=>∃(h j:Option V)(ds:List Addr),σ=h::j::c/\Same H2 a/\a D=some (.lst zs)/\zs=ds.map V.ref/\Rws a ds ((AH g tb ub).take i)/\ds.Nodup/\∀d∈ds,H2 d=none/\d≠D)
  ⟨none,none,[],rfl,Same.new r,za,rfl,.nil,.nil,fun d hd=>nomatch hd⟩ (fun i σ zs a ⟨_,_,_,_,sm,_⟩=>⟨SqL.of (sm _ _ h1),SqL.of (sm _ _ h2)⟩) ?_ ?_
 ·rintro i σ zs a w G I e1 e2 hi x ⟨h,j,ds,rfl,e,b,rfl,hr,l,hn⟩ p
  obtain⟨o,g1,rfl⟩:=iv e1;obtain⟨u,g2,rfl⟩:=iv e2;obtain⟨os,f1,y⟩:=q.get g1;obtain⟨us,f2,z⟩:=hu.get g2;have sp:=Same.new (o:=.tup [V.ref o,V.ref u]) p;refine⟨w,_,rfl,SqT.of za,rfl,_,_,rfl,_,_,rfl,rfl,fK ?_⟩;refine F o u os us _ _ (e.trans sp) (sp _ _ (e _ _ y)) (sp _ _ (e _ _ z)) (Am f1) (Am f2) fun d J f hd v=>?_;obtain⟨A,C,E⟩:=rH (D:=D) (o:=.lst (ds.map V.ref++[.ref d])) (e.trans sp) (hr.same sp) l hn f hd (by rw[sp _ _ b];simp) v;refine bB (Ag (Nat.min_le_right _ _) (by rw[Aa];exact zp ω)) hi x ((sp.trans f) _ _ b) ⟨_,_,ds++[d],rfl,((e.trans sp).trans f).then r,za,by simp,?_,C,E⟩;have e3:(AH g tb ub)[i]?=some (g os us):=by rw[List.getElem?_zipWith,f1,f2]
  rw[A8 e3];exact A
 ·rintro σ zs a ⟨h,j,ds,rfl,e,b,rfl,hr,l,hn⟩
  rw[An (by simp[l1,l2])] at hr;exact k a ds e b hr l hn
end
end K22
end
section
namespace K22
open PySem L2
abbrev C7:Stmt:=top 20
def eB(ns:List Int)(m:Int):Bool:=!decide (m<(ns.length:Int))&&(ns.all fun x=>decide (0<x))&&(AH (fun a b=>decide (b%a=0)) ns (ns.drop 1)).all id
section
variable{P:Program}{w:World}{K:Af}{mg:Str->Option Value}{base:Heap}
def OF{H2:Hp}{L D:Addr}{ns:List Int}{Q:VK}{f:Int->Bool}{te:TE}{c:List (Option V)}(h:∀(x:Int)(H:Hp)(R:VK),x∈ns->R (.bl (f x)) H->te (some (.int x)::c) H R)(i:H2 L=some (.lst (ns.map V.int)))(hz:ns.length<=1000)(e:H2 D=none)(k:∀b,Same H2 b->b D=some (.lst ((ns.map f).map V.bl))->Q (.ref D) b):cm (dS K L) (zH 0) bx te (none::c) H2 D Q:=by
 refine zY (xs:=ns.map V.int) (fun j σ ys b=>∃(v:Option V),σ=v::c/\Same H2 b/\b D=some (.lst ys)/\ys=((ns.take j).map f).map V.bl) ⟨none,rfl,Same.new e,za,rfl⟩ ?_ ?_ ?_
 ·rintro j σ ys b ⟨v,rfl,sm,a,rfl⟩
  exact SqL.of (sm _ _ i)
 ·rintro j σ ys b x hx g hy ⟨v,rfl,sm,a,rfl⟩
  obtain⟨y,d,rfl⟩:=eV hx;refine cf (h y b _ (Am d) (bB (by rw[Aa];exact zp ω) g hy a ⟨_,rfl,sm.then e,za,?_⟩));rw[A8 d,Aq,Aq];rfl
 ·rintro σ ys b ⟨v,rfl,sm,a,rfl⟩
  rw[Aa,An (Ae _)] at a;exact k b sm a
def OG{H2:Hp}{r o D:Addr}{rn on:List Int}{f:Int->Int->Bool}{te:TE}{c:List (Option V)}{Q:VK}(v:∀(a b:Int)(H:Hp)(R:VK),a∈rn->b∈on->R (.bl (f a b)) H->te (some (.int a)::some (.int b)::c) H R)(h1:H2 r=some (.lst (rn.map V.int)))(h2:H2 o=some (.lst (on.map V.int)))(n2:on.length<=1000)(s:H2 D=none)(k:∀d,Same H2 d->d D=some (.lst ((AH f rn on).map V.bl))->Q (.ref D) d):cm (dy K r o) (cw K 2 (cz (zH 0) (cz (zH 1) cv))) bx te (none::none::c) H2 D Q:=by
 refine EJ (K:=K) (xs:=rn.map V.int) (ys:=on.map V.int) (fun i σ zs d=>∃j l,σ=j::l::c/\Same H2 d/\d D=some (.lst zs)/\zs=((AH f rn on).take i).map V.bl)
  ⟨none,none,rfl,Same.new s,za,rfl⟩ (fun i σ zs d ⟨_,_,_,sm,_⟩=>⟨SqL.of (sm _ _ h1),SqL.of (sm _ _ h2)⟩) ?_ ?_
 ·rintro i σ zs d u w x e1 e2 hi hz ⟨j,l,rfl,h,e,rfl⟩ g
  obtain⟨p,g1,rfl⟩:=eV e1;obtain⟨q,g2,rfl⟩:=eV e2;refine⟨u,_,rfl,SqT.of za,rfl,_,_,rfl,_,_,rfl,rfl,fK ?_⟩;refine v p q _ _ (Am g1) (Am g2) (bB (Ag (Nat.min_le_right _ _) (by rw[Aa];exact zp ω)) hi hz (by rw[ao (zk e g)];exact e) ⟨_,_,rfl,?_,za,?_⟩)
  ·exact(h.then (h.free g)).then s
  ·have e3:(AH f rn on)[i]?=some (f p q):=by rw[List.getElem?_zipWith,g1,g2]
   rw[A8 e3,Aq];rfl
 ·rintro σ zs d ⟨j,l,rfl,h,e,rfl⟩
  refine k d h ?_;rw[e,An (by simp)]
end
end K22
end
section
namespace K22
open PySem L2
section
variable{P:Program}{w:World}{K:Af}{mg:Str->Option Value}{base:Heap}
def Jk:Sp:=fun vs H Q _=>∃(L:Addr)(ns:List Int)(m:Int),vs=[.ref L,.int m]/\H L=some (.lst (ns.map V.int))/\ns.length<=1000/\∀H',Same H H'->Q (.bl (eB ns m)) H'
def OH:zm ["steps","most"] ["steps","most"] (ze C7):=⟨rfl,rfl,rfl,δ,rfl,δ,δ⟩
def OI{f:Addr}{fd:FuncData}(F:Fun K "are_steps" "are_steps" C7 f fd)(bl:mg "len"=none)(u:mg "all"=none)(M:mg "zip"=none):ar P w K mg base aK 1 f fd ["steps","most"] Jk:=by
 refine F.ok OH (fun vs H Q E h=>?_) (fun U A outer s H vs Q E hr h=>?_)
 ·obtain⟨L,ns,m,rfl,_⟩:=h;rfl
 ·obtain⟨L,ns,m,rfl,d,hz,k⟩:=h
  refine⟨_,zb (cT (PW.pt (mJ (zw iV (zi zo rfl bl de (af (pv 0) ah)) (pv 1) (av _))
    (pB (jJ (iQ (zi (nq rfl) rfl u nI (af (zx ["steps","most"] ["step"] [none] (zF (pv 0)) (fun j C s₀ H₀ ex=>zl (i:=0) (bF ["step"]) rfl (Or.inl rfl)) (fun j C s₀ H₀ ex=>zA)
     (fun j C s₀ H₀ ex=>iY iV (pv 0) zd (av _)) (hfr:=cU δ)) ah))))))) (zg (zq mE)) zL)
   (zg (zq (zi (nq rfl) rfl u nI (af (zx ["steps","most"] ["low","high"] [none,none] (rK rfl M nR (af (pv 0) (af (kC kG (pv 0) (ky zd) kx) ah)))
    (fun j C s₀ H₀ ex=>jM rfl (zM (zl (i:=0) (bF ["low","high"]) rfl (Or.inl rfl)) (zM (zl (i:=1) (bF ["low","high"]) rfl (Or.inl rfl)) jK))) (fun j C s₀ H₀ ex=>zA)
    (fun j C s₀ H₀ ex=>iY fX (zt fT (pv 1) (pv 0)) zd (av _)) (hfr:=cU δ) (g:=cw K 2 (cz (zH 0) (cz (zH 1) cv)))) ah)))),?_⟩
  refine⟨_,rfl,L,_,rfl,.inl (SqL.of d),_,rfl,_,_,rfl,rfl,_,rfl,?_⟩;rw[Aa]
  by_cases c:m<(ns.length:Int)
  ·rw[decide_eq_true c]
   refine aW (aW ?_);have:eB ns m=false:=by unfold eB;rw[decide_eq_true c];rfl
   rw[this] at k;exact k H (Same.refl H)
  rw[decide_eq_false c];refine aR ⟨_,rfl,L,rfl,⟨_,SqL.of d⟩,fun D v=>zy (OF (f:=fun x=>decide (0<x)) (fun x H' R _ p=>⟨_,rfl,_,_,rfl,rfl,p⟩) d hz v fun N l q=>⟨D,_,rfl,SqL.of q,_,rfl,?_⟩)⟩
  by_cases c2:(ns.map fun x=>decide (0<x)).all id=true
  ·rw[c2]
   refine aR ⟨_,rfl,_,rfl,_,rfl,L,_,rfl,SqL.of (l _ _ d),fun S y=>?_⟩;rw[show(some (1:Int))=some ((1:Nat):Int) from rfl,hA,<-List.map_drop];have r:=Same.new (o:=.lst ((ns.drop 1).map V.int)) y;have pos:∀x∈ns,0<x:=fun x hx=>by
    rw[List.all_map,AY] at c2;exact of_decide_eq_true (c2 x hx)
   refine⟨L,S,rfl,⟨_,SqL.of ((l.trans r) _ _ d)⟩,⟨_,SqL.of za⟩,fun O z=>zy (OG (f:=fun a b=>decide (b%a=0)) (fun a b H' R G hb p=>?_) ((l.trans r) _ _ d) za (by rw[List.length_drop];(first|lia|omega)) z fun T I J=>⟨O,_,rfl,SqL.of J,?_⟩)⟩
   ·refine⟨_,rfl,_,rfl,_,_,rfl,rfl,pos a G,rfl,?_⟩
    rw[show decide (V.int (b%a)=V.int 0)=decide (b%a=0) from by rw[Bool.eq_iff_iff];simp];exact p
   ·have e:eB ns m=(AH (fun a b=>decide (b%a=0)) ns (ns.drop 1)).all id:=by
     unfold eB;rw[List.all_map] at c2;rw[decide_eq_false c,show(ns.all fun x=>decide (0<x))=true from c2];rfl
    rw[e] at k;exact k T ((l.trans r).trans I)
  ·rw[Bool.eq_false_iff.mpr c2]
   refine aW ?_;have:eB ns m=false:=by
    unfold eB;rw[List.all_map] at c2;rw[show(ns.all fun x=>decide (0<x))=false from Bool.eq_false_iff.mpr c2,Bool.and_false];rfl
   rw[this] at k;exact k N l
end
end K22
end
section
namespace K22
open PySem L2
abbrev dz:Stmt:=top 32
def Jl(xs:List V)(n:Nat):cI xs none (some (n:Int))=xs.take n:=by
 unfold cI;rw[HT.G',HT.Hf,List.drop_zero,Nat.sub_zero];rcases Nat.le_total n xs.length with h|h
 ·rw[Nat.min_eq_left h]
 ·rw[Nat.min_eq_right h,An (Ae _),An h]
structure NT(H H':Hp)(a:Addr)(ds:List Addr)(tb:Ξ):Prop where
 at_:H' a=some (.lst (ds.map V.ref))
 rows:Rws H' ds tb
 nd:ds.Nodup
 na:H a=none
 nw:∀d∈ds,H d=none/\d≠a
def NT.same{H H' H2:Hp}{a:Addr}{ds:List Addr}{tb:Ξ}(h:NT H H' a ds tb)(s:Same H' H2):NT H H2 a ds tb:=⟨s _ _ h.at_,h.rows.same s,h.nd,h.na,h.nw⟩
def NT.old{H0 H H':Hp}{a:Addr}{ds:List Addr}{tb:Ξ}(h:NT H H' a ds tb)(s:Same H0 H):NT H0 H' a ds tb:=⟨h.at_,h.rows,h.nd,s.free h.na,fun d hd=>⟨s.free (h.nw d hd).1,(h.nw d hd).2⟩⟩
def cat(tb ub:Ξ):Ξ:=AH (·++·) tb ub
def iG(n:Nat)(sh a:Ξ):Ξ:=(Ah n).map fun j=>fN n (colAt sh j) a
structure Jm(N M X B Y m n:Nat)(tb ub bc:Ξ):Prop where
 l1:tb.length=n
 l2:ub.length=n
 l3:bc.length=n
 w1:∀r∈tb,r.length=m
 w3:∀r∈bc,r.length=n
 n64:n<=40
 m64:m<=500
 w2:∀r∈ub,r.length=n
 ech:Je N M X B Y (m+n) (cat tb ub)
 shr:∀P fr,Tb.FS N M X B ((cat tb ub).map vc) P (vF fr)->Wid (m+n) P fr->∀r∈cat tb ub,j7 fr (m+n) r P
 mul:∀P fr,Tb.FS N M X B ((cat tb ub).map vc) P (vF fr)->Wid (m+n) P fr->∀r∈cat tb ub,∀x∈shrL fr r P,∀row∈bc,∀y∈row,ey (-x) y
section
variable{P:Program}{w:World}{K:Af}{mg:Str->Option Value}{base:Heap}
def Jn:Sp:=fun vs H Q _=>∃(t a b c:Addr)(f g h:List Addr)(tb ub d:Ξ)(N M X B Y m n:Nat),vs=[.ref t,.int m]/\H t=some (.tup [.ref a,.ref b,.ref c])/\H a=some (.lst (f.map V.ref))/\H b=some (.lst (g.map V.ref))/\H c=some (.lst (h.map V.ref))/\Rws H f tb/\Rws H g ub/\Rws H h d/\Jm N M X B Y m n tb ub d/\
 ∀P fr t' a' b' e i j l H',Tb.FS N M X B ((cat tb ub).map vc) P (vF fr)->Wid (m+n) P fr->Same H H'->H' t'=some (.tup [.ref a',.ref b',.ref e])->NT H H' a' i (P.map fun p=>(fr p).take m)->NT H H' b' j (P.map fun p=>(fr p).drop m)->NT H H' e l (iG n ((cat tb ub).map fun r=>shrL fr r P) d)->Q (.ref t') H'
def tV:zm ["side","width","rows","found","fresh","shares"] ["side","width"] (ze dz):=⟨rfl,rfl,rfl,δ,rfl,δ,δ⟩
def OJ{H2:Hp}{L D a:Addr}{es:List (Nat×Addr)}{fr:Nat->List Int}{ps:List Nat}{Q:VK}{te:TE}{c:List (Option V)}(l:Fnd H2 a es fr)(E:∀p∈ps,p∈es.map (·.1))(F:∀(p:Nat)(d:Addr)(H:Hp)(R:VK),Same H2 H->DGet H a (.int p) (some (.ref d))->R (.ref d) H->te (some (.int p)::c) H R)(G:H2 L=some (.lst (ps.map fun p:Nat=>V.int (p:Int))))(hz:ps.length<=1000)(g:H2 D=none)(k:∀b ds,Same H2 b->b D=some (.lst (ds.map V.ref))->Rws b ds (ps.map fr)->Q (.ref D) b):cm (dS K L) (zH 0) bx te (none::c) H2 D Q:=by
 refine zY (xs:=ps.map fun p:Nat=>V.int (p:Int)) (fun j σ ys b=>∃(v:Option V)(ds:List Addr),σ=v::c/\Same H2 b/\b D=some (.lst ys)/\ys=ds.map V.ref/\Rws b ds ((ps.take j).map fr)) ⟨none,[],rfl,Same.new g,za,rfl,.nil⟩ ?_ ?_ ?_
 ·rintro j σ ys b ⟨v,ds,rfl,sm,f,rfl,_⟩
  exact SqL.of (sm _ _ G)
 ·rintro j σ ys b x hx s hy ⟨v,ds,rfl,sm,f,rfl,hr⟩
  obtain⟨p,hp,rfl⟩:∃p,ps[j]?=some p/\x=V.int (p:Int):=by
   rw[Aj] at hx;cases e:ps[j]? with
   |none=>rw[e] at hx;cases hx
   |some p=>rw[e] at hx;cases hx;exact⟨p,rfl,rfl⟩
  obtain⟨d,hd,u,w⟩:=(l.same sm).get (E p (Am hp));refine cf (F p d b _ sm u (bB (by rw[Aa];exact zp ω) s hy f ⟨_,ds++[d],rfl,sm.then g,za,by simp,?_⟩));rw[A8 hp,Aq];have A:∀e∈ds++[d],e≠D:=fun e r z=>by
   subst z;rcases List.mem_append.mp r with h|h
   ·obtain⟨i,hi⟩:=List.mem_iff_getElem?.mp h
    obtain⟨ns,e1,e2⟩:=hr.get hi;rw[f] at e2;have e2:=AS e2;injection e2 with e2
    have C:ds.length≠0:=fun z=>by rw[List.length_eq_zero_iff.mp z] at h;cases h
    cases ds with
    |nil=>cases h
    |cons q ds=>cases ns with
     |nil=>cases e2
     |cons n ns=>rw[A5,A5] at e2;cases e2
   ·obtain rfl:e=d:=by simpa using h
    obtain⟨_,y⟩:∃o,H2 e=some o:=⟨_,l.rows _ hd⟩;rw[y] at g;cases g
  exact((hr.snoc w).upd A)
 ·rintro σ ys b ⟨v,ds,rfl,sm,f,rfl,hr⟩
  rw[Aa,An (Ae _)] at hr;exact k b ds sm f hr
def OK{f fe fc fm fs:Addr}{fd mY bD cP aD:FuncData}(F:Fun K "straightened" "straightened" dz f fd)(bz:mg "zip"=none)(bs:mg "sorted"=none)(Fe:Fun K "echelon_of" "echelon_of" jo fe mY)(be:Binds K mY ["rows"] [])(me:mg "echelon_of"=some (.ref fe))(Ge:ar P w K mg base aK 4 fe mY ["rows"] Jf)(Fc:Fun K "columns_of" "columns_of" ry fc bD)(bc:Binds K bD ["table"] [])(mc:mg "columns_of"=some (.ref fc))(Gc:ar P w K mg base aK 3 fc bD ["table"] (EI K))(Fm:Fun K "mix_of" "mix_of" jp fm cP)(bm:Binds K cP ["numbers","rows"] [])(mm:mg "mix_of"=some (.ref fm))(Gm:ar P w K mg base aK 2 fm cP ["numbers","rows"] FH)(Fs:Fun K "shares_of" "shares_of" jf fs aD)(bh:Binds K aD ["row","found"] [])(ms:mg "shares_of"=some (.ref fs))(Gs:ar P w K mg base aK 2 fs aD ["row","found"] ER):ar P w K mg base aK 5 f fd ["side","width"] Jn:=by
 refine F.ok tV (fun vs H Q E h=>?_) (fun ai A outer s H vs Q E hr h=>?_)
 ·obtain⟨t,a,b,c,da,db,dc,tb,ub,bb,N,M,X,B,Y,m,n,rfl,_⟩:=h;rfl
 ·obtain⟨t,a,b,c,da,db,dc,tb,ub,bb,N,M,X,B,Y,m,n,rfl,ht,ha,hb,hc,ra,rb,rc,ok,k⟩:=h
  have hu:=y_ hr;have hr3:Room 3 _:=hr.mono ξ;have eA:Room 2 _:=hr.mono ξ;refine⟨_,zb (nH (i:=2) tV.nd rfl (Or.inl rfl) ["side","width","rows","found","fresh","shares"] ["row","turn"] [none,none] (rK rfl bz nR (af (zu zD (pv 0) zd (fun _ _=>rfl)) (af (zu zD (pv 0) zd (fun _ _=>rfl)) ah)))
    (fun v C s₀ H₀ ex=>jM rfl (zM (zl (i:=0) (bF ["row","turn"]) rfl (Or.inl rfl)) (zM (zl (i:=1) (bF ["row","turn"]) rfl (Or.inl rfl)) jK))) (fun v C s₀ H₀ ex=>zA)
    (fun v C s₀ H₀ ex=>zt m4 (pv 0) (pv 1)) (te:=bI i0 (aw 0) (aw 1)) (hfr:=cU δ) (g:=cw K 2 (cz (zH 0) (cz (zH 1) cv))))
   (zb (zj (i:=3) tV.nd rfl (Or.inr rfl) (zf Ge hr rfl me Fe.kp be .nil ak (af (pv 2) ah)))
   (zb (nH (i:=4) tV.nd rfl (Or.inl rfl) ["side","width","rows","found","fresh","shares"] ["place","found"] [none,some 3] (zF (zi (zZ rfl) rfl bs sU (af (pv 3) ah))) (fun v C s₀ H₀ ex=>zl (i:=0) (bF ["place","found"]) rfl (Or.inl rfl)) (fun v C s₀ H₀ ex=>zA)
    (fun v C s₀ H₀ ex=>kI hu (pv 1) (pv 0) (fun _ _=>rfl)) (hfr:=a_ (ze dz) δ))
   (zb (nH (i:=5) tV.nd rfl (Or.inl rfl) ["side","width","rows","found","fresh","shares"] ["row","found"] [none,some 3] (zF (pv 2)) (fun v C s₀ H₀ ex=>zl (i:=0) (bF ["row","found"]) rfl (Or.inl rfl)) (fun v C s₀ H₀ ex=>zA)
    (fun v C s₀ H₀ ex=>zf Gs eA rfl ms Fs.kp bh .nil ak (af (pv 0) (af (pv 1) ah))) (te:=fY ER [] E0 (zO (aw 0) (zO (aw 1) bL))) (hfr:=a_ (ze dz) δ))
   (zg (zq (il (af
    (zx ["side","width","rows","found","fresh","shares"] ["row","width"] [none,some 1] (zF (pv 4)) (fun v C s₀ H₀ ex=>zl (i:=0) (bF ["row","width"]) rfl (Or.inl rfl)) (fun v C s₀ H₀ ex=>zA)
     (fun v C s₀ H₀ ex=>kC kG (pv 0) kx (ky (pv 1))) (te:=qy (gx K) (aw 0) qo (qx (aw 1))) (hfr:=a_ (ze dz) δ))
    (af (zx ["side","width","rows","found","fresh","shares"] ["row","width"] [none,some 1] (zF (pv 4)) (fun v C s₀ H₀ ex=>zl (i:=0) (bF ["row","width"]) rfl (Or.inl rfl)) (fun v C s₀ H₀ ex=>zA)
     (fun v C s₀ H₀ ex=>kC kG (pv 0) (ky (pv 1)) kx) (te:=qy (gx K) (aw 0) (qx (aw 1)) qo) (hfr:=a_ (ze dz) δ))
    (af (zx ["side","width","rows","found","fresh","shares"] ["numbers","side"] [none,some 0] (zF (zf Gc hr3 rfl mc Fc.kp bc .nil ak (af (pv 5) ah))) (fun v C s₀ H₀ ex=>zl (i:=0) (bF ["numbers","side"]) rfl (Or.inl rfl)) (fun v C s₀ H₀ ex=>zA)
     (fun v C s₀ H₀ ex=>zf Gm eA rfl mm Fm.kp bm .nil ak (af (pv 0) (af (zu zD (pv 1) zd (fun _ _=>rfl)) ah))) (te:=fY FH [] E0 (zO (aw 0) (zO (bI (qD K) (aw 1) (tC (.int 2))) bL))) (hfr:=a_ (ze dz) δ)) ah))))))))),?_⟩
  refine⟨_,rfl,t,_,_,_,rfl,rfl,SqT.of ht,zh (j:=0) rfl,_,rfl,t,_,_,_,rfl,rfl,SqT.of ht,zh (j:=1) rfl,a,b,rfl,⟨_,SqL.of ha⟩,⟨_,SqL.of hb⟩,fun R hR=>zy (OE (g:=fun x y=>x++y) (fun o u os us H' R sm G nv ig fP hk=>?_) ha hb ra rb (by have:=ok.l2;have:=ok.n64;(first|lia|omega)) hR fun H1 rs s1 kZ I _ _=>?_)⟩
  ·refine⟨_,rfl,_,rfl,o,u,_,_,rfl,rfl,G,nv,?_,fun p hp=>?_⟩
   ·rw[Aa,Aa,ok.w1 os ig,ok.w2 us fP,sizeLine_eq];have:=ok.n64;have:=ok.m64;(first|lia|omega)
   ·rw[<-Aq]
    exact hk p _ (Same.new hp) hp za
  have I:Rws H1 rs (cat tb ub):=I;refine⟨_,rfl,R,rs,cat tb ub,N,M,X,B,Y,m+n,rfl,kZ,I,ok.ech,fun a1 H2 es fr PP s2 Ce F2 jS kj FS=>?_⟩;have lc:(cat tb ub).length=n:=by unfold cat;rw[AF,ok.l1,ok.l2,Nat.min_self]
  have lP:PP.length=n:=by rw[FS.len,Aa,lc]
  have le:es.length<64:=by have:=jS.len;have:=ok.n64;(first|lia|omega)
  refine⟨_,rfl,a1,d0 es,rfl,F2.at_,(by simpa using le),fun PL ms pm so dE=>?_⟩;rw[jS.ints pm so];have nE:=Same.new (o:=.lst (PP.map fun p:Nat=>V.int (p:Int))) dE;refine⟨PL,rfl,⟨_,SqL.of za⟩,fun FD rP=>zy (OJ (F2.same nE) (fun p hp=>jS.pm.mem_iff.mp hp) (fun p d H' R sm gd hk=>⟨_,rfl,_,rfl,a1,_,rfl,gd,hk⟩) za (by have:=ok.n64;(first|lia|omega)) rP fun H3 fs s3 eU pY=>?_)⟩;have jY:=(s2.trans nE).trans s3;have F3:=(F2.same nE).same s3;refine⟨_,rfl,R,rfl,⟨_,SqL.of (jY _ _ kZ)⟩,fun SD rV=>zy (nP (g:=fun r=>shrL fr r PP) (fun o os H' R' sm G W hk=>?_) (SqL.of (jY _ _ kZ)) (I.same jY) (by rw[lc];have:=ok.n64;(first|lia|omega)) rV fun H4 ss J mI yO _ _=>?_)⟩
  ·exact⟨_,rfl,_,rfl,o,a1,os,es,fr,PP,m+n,rfl,G,F3.same sm,jS,le,ok.shr PP fr FS kj os W,hk⟩
  have jZ:=(s1.trans jY).trans J;refine⟨_,rfl,FD,rfl,⟨_,SqL.of (J _ _ eU)⟩,fun A1 oz=>zy (nP (g:=fun r=>r.take m) (fun o os H' R' sm G W hk=>?_) (SqL.of (J _ _ eU)) (pY.same J) (by rw[Aa,lP];have:=ok.n64;(first|lia|omega)) oz fun H5 d5 S rQ r5 n5 w5=>?_)⟩
  ·refine⟨_,rfl,_,rfl,_,rfl,o,_,rfl,SqL.of G,fun q hq=>?_⟩
   rw[Jl,<-List.map_take];exact hk q _ (Same.new hq) hq za
  refine⟨_,rfl,FD,rfl,⟨_,SqL.of ((J.trans S) _ _ eU)⟩,fun A2 p9=>zy (nP (g:=fun r=>r.drop m) (fun o os H' R' sm G W hk=>?_) (SqL.of ((J.trans S) _ _ eU)) (pY.same (J.trans S)) (by rw[Aa,lP];have:=ok.n64;(first|lia|omega)) p9 fun H6 d6 s6 wt r6 n6 w6=>?_)⟩
  ·refine⟨_,rfl,_,rfl,_,rfl,o,_,rfl,SqL.of G,fun q hq=>?_⟩
   rw[hA,<-List.map_drop];exact hk q _ (Same.new hq) hq za
  have eJ:=S.trans s6;have yX:=jZ.trans eJ;have iK:((cat tb ub).map fun r=>shrL fr r PP).length=n:=by rw[Aa,lc]
  have L:∀r∈(cat tb ub).map (fun r=>shrL fr r PP),r.length=n:=fun r hr=>by
   obtain⟨q,_,rfl⟩:=List.mem_map.mp hr;rw[sW,lP]
  have D:wid ((cat tb ub).map fun r=>shrL fr r PP)=n:=by
   cases e:(cat tb ub).map (fun r=>shrL fr r PP) with
   |nil=>rw[e] at iK;exact iK
   |cons x l=>rw[e] at L;exact L x (At ..)
  have tsh:cy ((cat tb ub).map fun r=>shrL fr r PP)=true:=by
   unfold cy;rw[D,iK,decide_eq_true ok.n64];simp only[Bool.and_self,Bool.true_and,AY];exact fun r hr=>decide_eq_true (L r hr)
  refine⟨_,rfl,SD,ss,_,rfl,SqL.of (eJ _ _ mI),yO.same eJ,tsh,fun CD H7 cs Z BH jk oP _ _=>⟨CD,rfl,⟨_,SqL.of jk⟩,fun A3 qT=>?_⟩⟩;have fZ:=yX.trans Z;have et:turn ((cat tb ub).map fun r=>shrL fr r PP)=(Ah n).map (colAt ((cat tb ub).map fun r=>shrL fr r PP)):=by unfold turn;rw[D]
  rw[et] at oP;have yV:∀r∈bb,r.length=wid bb:=fun r hr=>by
   cases e:bb with
   |nil=>rw[e] at hr;cases hr
   |cons x l=>rw[ok.w3 r hr];exact(ok.w3 x (by rw[e];exact At ..)).symm
  have wb:wid bb=n:=by
   cases e:bb with
   |nil=>have:=ok.l3;rw[e] at this;exact this
   |cons x l=>exact ok.w3 x (by rw[e];exact At ..)
  refine zy (nP (g:=fun ns=>fN n ns bb) (fun o os H' R' sm G W hk=>?_) (SqL.of jk) oP (by rw[Aa,A9];have:=ok.n64;(first|lia|omega)) qT fun H8 d8 s8 sL r8 n8 w8=>?_)
  ·have kM:=fZ.trans sm
   refine⟨_,rfl,_,rfl,t,_,_,_,rfl,rfl,SqT.of (kM _ _ ht),zh (j:=2) rfl,o,c,os,dc,bb,rfl,G,kM _ _ hc,rc.same kM,by rw[wb];have:=ok.n64;(first|lia|omega),yV,fun z hz y hy=>?_,by rw[wb];exact hk⟩;obtain⟨z1,z2⟩:=List.of_mem_zip hz;obtain⟨j,hj,rfl⟩:=List.mem_map.mp W;have z1:z.1∈((cat tb ub).map fun r=>shrL fr r PP).map fun r=>r.getD j 0:=z1;obtain⟨sr,sV,e1⟩:=List.mem_map.mp z1;obtain⟨r,hr,rfl⟩:=List.mem_map.mp sV;refine ok.mul PP fr FS kj r hr z.1 ?_ z.2 z2 y hy;have hj:=List.mem_range.mp hj;have rz:j<(shrL fr r PP).length:=by rw[sW,lP];exact hj
   rw[<-e1,Ab,Ac rz];exact AI _
  ·have ou:=(s6.trans Z).trans s8
   have pH:=Z.trans s8;have U:∀{x},H4 x=none->H x=none:=fun h=>jZ.free h;refine⟨by show 3<=sizeLine;decide,fun T hT=>?_⟩;have O:=Same.new (o:=.tup [V.ref A1,V.ref A2,V.ref A3]) hT;rw[AV] at r5 r6 r8;refine k PP fr T A1 A2 A3 d5 d6 d8 _ FS kj ((fZ.trans s8).trans O) za ⟨O _ _ (ou _ _ rQ),(r5.same ou).same O,n5,U oz,fun d hd=>⟨U (w5 d hd).1,(w5 d hd).2⟩⟩ ⟨O _ _ (pH _ _ wt),(r6.same pH).same O,n6,U (S.free p9),fun d hd=>⟨U (S.free (w6 d hd).1),(w6 d hd).2⟩⟩ ⟨O _ _ sL,r8.same O,n8,U (eJ.free (Z.free qT)),fun d hd=>⟨U (eJ.free (Z.free (w8 d hd).1)),(w8 d hd).2⟩⟩
end
end K22
end
section
namespace K22
open PySem L2
abbrev C8:Stmt:=top 42
def rowAt(tb:Ξ)(i:Nat):List Int:=tb.getD i []
def slT(tb:Ξ)(r:Nat):Nat->Ξ
 |0=>tb
 |n+1=>(slT tb r n).set (r-2-n) (cV (rowAt (slT tb r n) (r-2-n)) (-1) (rowAt (slT tb r n) (r-1-n)))
def slB(tb:Ξ)(r:Nat):Nat->Ξ
 |0=>tb
 |n+1=>(slB tb r n).set (r-1-n) (cV (rowAt (slB tb r n) (r-1-n)) 1 (rowAt (slB tb r n) (r-2-n)))
def lg{tb:Ξ}{r:Nat}:∀n,(slT tb r n).length=tb.length
 |0=>rfl
 |n+1=>by show List.length (List.set _ _ _)=_;rw[List.length_set];exact lg n
def t4{tb:Ξ}{r:Nat}:∀n,(slB tb r n).length=tb.length
 |0=>rfl
 |n+1=>by show List.length (List.set _ _ _)=_;rw[List.length_set];exact t4 n
structure Wk(H0:Hp)(Z:List Addr)(H:Hp)(R:Addr)(rs:List Addr)(tb:Ξ):Prop where
 at_:H R=some (.lst (rs.map V.ref))
 rows:Rws H rs tb
 nd:rs.Nodup
 nw:∀d∈rs,H0 d=none/\∀z∈Z,d≠z
section
variable{H0 H H':Hp}{Z:List Addr}{R R':Addr}{rs:List Addr}{tb:Ξ}
def Wk.same(h:Wk H0 Z H R rs tb)(s:Same H H'):Wk H0 Z H' R rs tb:=⟨s _ _ h.at_,h.rows.same s,h.nd,h.nw⟩
def Wk.get(h:Wk H0 Z H R rs tb){i:Nat}(hi:i<tb.length):∃d,rs[i]?=some d/\(rs.map V.ref)[i]?=some (V.ref d)/\H d=some (.lst ((rowAt tb i).map V.int)):=by
 have a:=h.rows.len;obtain⟨ns,e1,e2⟩:=h.rows.get (Ac (show i<rs.length from ω));refine⟨rs[i]'ω,Ac _,by rw[Aj,Ac (show i<rs.length from ω)];rfl,?_⟩;unfold rowAt;rw[Ab,e1];exact e2
def Wk.other(h:Wk H0 Z H R' rs tb)(hz:R∈Z)(ne:R'≠R){o:HO}:Wk H0 Z (upd H R o) R' rs tb:=⟨by rw[ao ne];exact h.at_,h.rows.upd fun d hd=>(h.nw d hd).2 R hz,h.nd,h.nw⟩
def OL{l:List Addr}{i:Nat}{d:Addr}(h:l.Nodup)(hd:d∉l):(l.set i d).Nodup:=by
 rw[List.Nodup,List.pairwise_iff_getElem];intro a b e hb g;rw[List.length_set] at e hb;have f:∀c(hc:c<l.length),l[c]≠d:=fun c hc z=>hd (z▸AI hc);rw[List.getElem_set,List.getElem_set];have:=List.pairwise_iff_getElem.mp h a b e hb g;split
 ·split
  ·(first|lia|omega)
  ·exact(f b hb).symm
 ·split
  ·exact f a e
  ·exact this
def OM{H:Hp}{rs:List Addr}{tb:Ξ}{d:Addr}{ns:List Int}(h:Rws H rs tb)(e:H d=some (.lst (ns.map V.int))):∀i,Rws H (rs.set i d) (tb.set i ns):=by
 induction h with
 |nil=>intro i;exact .nil
 |cons r t ih=>intro i;cases i with
  |zero=>exact .cons e t
  |succ i=>exact .cons r (ih i)
def Wk.put(h:Wk H0 Z H R rs tb)(b:Same H0 H')(s:Same H H'){d:Addr}{ns:List Int}{H2:Hp}(c:Same H' H2)(hd:H' d=none)(e:H2 d=some (.lst (ns.map V.int)))(hz:R∈Z)(f:∀z∈Z,H' z≠none)(i:Nat):Wk H0 Z (upd H2 R (.lst ((rs.map V.ref).set i (.ref d)))) R (rs.set i d) (tb.set i ns):=by
 have a:d∉rs:=fun z=>(h.same s).rows.there d z hd;have nz:∀z∈Z,d≠z:=fun z hz e=>f z hz (e▸hd);refine⟨by rw[za,List.map_set],?_,OL h.nd a,fun x hx=>?_⟩
 ·refine(OM ((h.rows.same s).same c) e i).upd fun x hx=>?_
  rcases List.mem_or_eq_of_mem_set hx with hx|rfl
  ·exact(h.nw x hx).2 R hz
  ·exact nz R hz
 ·rcases List.mem_or_eq_of_mem_set hx with hx|rfl
  ·exact h.nw x hx
  ·exact⟨b.free hd,nz⟩
end
def Sml(tb:Ξ):Prop:=∀r∈tb,r.length<=1000/\∀x∈r,x.natAbs<big
def ON:(1:Int).natAbs<big:=by
 unfold big;exact Nat.one_lt_two_pow (by have:=la;(first|lia|omega))
def Sml.at{tb:Ξ}(h:Sml tb){i:Nat}(hi:i<tb.length):(rowAt tb i).length<=1000/\∀x∈rowAt tb i,x.natAbs<big:=by
 refine h _ ?_;unfold rowAt;rw[Ab,Ac hi];exact AI _
section
variable{P:Program}{w:World}{K:Af}{mg:Str->Option Value}{base:Heap}
def Jo:Sp:=fun vs H Q _=>∃(H0:Hp)(t a b c:Addr)(h i l:List Addr)(tb ub bb:Ξ)(n r:Nat),vs=[.ref t,.int r]/\H t=some (.tup [.ref a,.ref b,.ref c])/\Same H0 H/\NT H0 H a h tb/\NT H0 H b i ub/\NT H0 H c l bb/\tb.length=n/\ub.length=n/\bb.length=n/\1<=r/\r<=n/\n<=1000/\
 (∀j,j<r->Sml (slT tb r j)/\Sml (slT ub r j)/\Sml (slB bb r j))/\
 ∀t' a' b' d e f g H',Same H H'->H' t'=some (.tup [.ref a',.ref b',.ref d])->NT H0 H' a' e (slT tb r (r-1))->NT H0 H' b' f (slT ub r (r-1))->NT H0 H' d g (slB bb r (r-1))->Q (.ref t') H'
def t5:zm ["side","count","rows","turn","back","k"] ["side","count"] (ze C8):=⟨rfl,rfl,rfl,δ,rfl,δ,δ⟩
def FI:A4 "list"=some (.type "list"):=δ
def OO{f fl:Addr}{fd bP:FuncData}(F:Fun K "slid" "slid" C8 f fd)(bg:mg "range"=none)(bs:mg "list"=none)(Fl:Fun K "less" "less" j4 fl bP)(bl:Binds K bP ["row","often","other"] [])(ml:mg "less"=some (.ref fl))(Gl:ar P w K mg base aK 1 fl bP ["row","often","other"] sy):ar P w K mg base aK 2 f fd ["side","count"] Jo:=by
 refine F.ok t5 (fun vs H Q E h=>?_) (fun ai A outer s H vs Q E hr h=>?_)
 ·obtain⟨H0,t,a,b,c,da,db,dc,tb,ub,bb,n,r,rfl,_⟩:=h;rfl
 ·obtain⟨H0,t,a,b,c,da,db,dc,tb,ub,bb,n,r,rfl,ht,s0,na,nb,nc,l1,l2,l3,r1,rn,n9,xQ,k⟩:=h
  refine⟨_,zb (zj (i:=2) t5.nd rfl (Or.inl rfl) (qf yh rfl bs FI (af (zu zD (pv 0) zd (fun _ _=>rfl)) ah)))
   (zb (zj (i:=3) t5.nd rfl (Or.inl rfl) (qf yh rfl bs FI (af (zu zD (pv 0) zd (fun _ _=>rfl)) ah)))
   (zb (zj (i:=4) t5.nd rfl (Or.inl rfl) (qf yh rfl bs FI (af (zu zD (pv 0) zd (fun _ _=>rfl)) ah)))
   (zb (fh A0 rfl (I0 rfl bg (af (zt fy (pv 1) zd) (af zd (af (fS fU zd) ah)))) (zl (i:=5) t5.nd rfl (Or.inl rfl))
    (zb (jP (zf Gl hr rfl ml Fl.kp bl .nil ak (af (zu zr (pv 2) (zt fy (pv 5) zd) (fun _ _=>rfl)) (af (fS fU zd) (af (zu zr (pv 2) (pv 5) (fun _ _=>rfl)) ah)))) (jO (pv 2) (zt fy (pv 5) zd) set_list))
    (zb (jP (zf Gl hr rfl ml Fl.kp bl .nil ak (af (zu zr (pv 3) (zt fy (pv 5) zd) (fun _ _=>rfl)) (af (fS fU zd) (af (zu zr (pv 3) (pv 5) (fun _ _=>rfl)) ah)))) (jO (pv 3) (zt fy (pv 5) zd) set_list))
    (zg (jP (zf Gl hr rfl ml Fl.kp bl .nil ak (af (zu zr (pv 4) (pv 5) (fun _ _=>rfl)) (af zd (af (zu zr (pv 4) (zt fy (pv 5) zd) (fun _ _=>rfl)) ah)))) (jO (pv 4) (pv 5) set_list))))))
   (zg (zq (il (af (pv 2) (af (pv 3) (af (pv 4) ah))))))))),?_⟩
  refine⟨_,rfl,t,_,_,_,rfl,rfl,SqT.of ht,zh (j:=0) rfl,a,_,rfl,.inl (SqL.of na.at_),fun R hR=>?_⟩;have I:=Same.new (o:=.lst (da.map V.ref)) hR;refine⟨_,rfl,t,_,_,_,rfl,rfl,SqT.of (I _ _ ht),zh (j:=1) rfl,b,_,rfl,.inl (SqL.of (I _ _ nb.at_)),fun T hT=>?_⟩;have M:=Same.new (o:=.lst (db.map V.ref)) hT;refine⟨_,rfl,t,_,_,_,rfl,rfl,SqT.of ((I.trans M) _ _ ht),zh (j:=2) rfl,c,_,rfl,.inl (SqL.of ((I.trans M) _ _ nc.at_)),fun B hB=>?_⟩;have sB:=Same.new (o:=.lst (dc.map V.ref)) hB;have sZ:=(I.trans M).trans sB;have pj:R≠T:=zk za hT;have pO:T≠B:=zk za hB;have qB:R≠B:=zk (M _ _ za) hB;have eE:H T=none:=I.free hT;have mQ:H B=none:=(I.trans M).free hB;have W0:∀{x:Addr}{dx:List Addr}{tx:Ξ}{Y:Addr}{H2:Hp},NT H0 H x dx tx->Same H H2->H2 Y=some (.lst (dx.map V.ref))->Wk H0 [R,T,B] H2 Y dx tx:=fun{x dx tx Y H2} n s e=>
   ⟨e,n.rows.same s,n.nd,fun d hd=>⟨(n.nw d hd).1,fun z hz q=>by
    have y:=n.rows.there d hd;rw[q] at y;simp at hz;rcases hz with rfl|rfl|rfl
    ·exact y hR
    ·exact y eE
    ·exact y mQ⟩⟩
  have en:(((r:Nat):Int)-1-0).toNat=r-1:=ω
  refine⟨_,rfl,_,_,rfl,rfl,_,rfl,_,_,rfl,⟨ω,ω,ω,ω⟩,?_⟩;rw[en];refine I_ (fun i σ H2=>∃(v5:Option V)(rs v bs:List Addr),σ=[some (.ref t),some (.int r),some (.ref R),some (.ref T),some (.ref B),v5]/\Same H H2/\Wk H0 [R,T,B] H2 R rs (slT tb r i)/\Wk H0 [R,T,B] H2 T v (slT ub r i)/\Wk H0 [R,T,B] H2 B bs (slB bb r i))
   ⟨none,da,db,dc,rfl,sZ,W0 na sZ ((M.trans sB) _ _ za),W0 nb sZ (sB _ _ za),W0 nc sZ za⟩ ?_ ?_
  ·rintro i σ H2 hi ⟨v5,rs,v,bs,rfl,sm,u,wT,wB⟩
   obtain⟨g,jW⟩:∃g,g=r-2-i:=⟨_,rfl⟩;have e1:((r:Nat):Int)-1-((i:Nat):Int)=((g+1:Nat):Int):=ω
   have e2:((g+1:Nat):Int)-1=((g:Nat):Int):=ω
   have J:r-1-i=g+1:=ω
   obtain⟨mB,l4,az⟩:=xQ i ω;have lR:(slT tb r i).length=n:=by rw[lg,l1]
   have lT:(slT ub r i).length=n:=by rw[lg,l2]
   have lB:(slB bb r i).length=n:=by rw[t4,l3]
   have p:∀{q:Int}{x:Int},q.natAbs<=1->x.natAbs<big->ey q x:=fun hq hx=>CV (Ax hq ON) hx;have ix:∀{l:List Addr}{j:Nat},j<l.length->eR (l.map V.ref).length ((j:Nat):Int)=some j:=fun{l j} h=>by unfold eR;rw[Aa];simp[h]
   have Zin:∀{L:Hp},Same H2 L->∀z∈[R,T,B],L z≠none:=fun{L} s z hz=>by
    simp at hz;rcases hz with rfl|rfl|rfl
    ·rw[s _ _ u.at_];simp
    ·rw[s _ _ wT.at_];simp
    ·rw[s _ _ wB.at_];simp
   obtain⟨d1,g1,U,h1⟩:=u.get (i:=g) ω;obtain⟨d2,g2,W,h2⟩:=u.get (i:=g+1) ω;rw[e1];have G:=mB.at (i:=g+1) ω;refine⟨_,rfl,_,rfl,_,_,rfl,rfl,R,_,_,_,rfl,rfl,SqL.of u.at_,by rw[e2];exact zh U,_,rfl,_,rfl,_,rfl,R,_,_,_,rfl,rfl,SqL.of u.at_,zh W,d1,d2,_,_,-1,rfl,h1,h2,G.1,fun x hx=>p ξ (G.2 x hx),fun X L N hD3 e3=>?_⟩;refine⟨_,rfl,_,rfl,_,_,rfl,rfl,R,_,_,g,rfl,rfl,N _ _ u.at_,by rw[e2];exact ix (by have:=u.rows.len;(first|lia|omega)),?_⟩;have nM:=u.put (s0.trans sm) (Same.refl H2) N hD3 e3 (by simp) (Zin (Same.refl H2)) g;have dL:Same H (upd L R (.lst ((rs.map V.ref).set g (.ref X)))):=(sm.trans N).then hR;have C:=(wT.same N).other (R:=R) (by simp) (Ne.symm pj) (o:=.lst ((rs.map V.ref).set g (.ref X)));have kU:=(wB.same N).other (R:=R) (by simp) (Ne.symm qB) (o:=.lst ((rs.map V.ref).set g (.ref X)));have Z3:∀z∈[R,T,B],(upd L R (.lst ((rs.map V.ref).set g (.ref X)))) z≠none:=fun z hz=>by
    simp at hz;rcases hz with rfl|rfl|rfl
    ·rw[za];simp
    ·rw[C.at_];simp
    ·rw[kU.at_];simp
   have et1:(slT tb r i).set g (cV (rowAt (slT tb r i) g) (-1) (rowAt (slT tb r i) (g+1)))=slT tb r (i+1):=by
    show _=(slT tb r i).set (r-2-i) (cV (rowAt (slT tb r i) (r-2-i)) (-1) (rowAt (slT tb r i) (r-1-i)));rw[<-jW,J]
   rw[et1] at nM;generalize upd L R (.lst ((rs.map V.ref).set g (.ref X)))=H4 at nM dL C kU Z3 ⊢;obtain⟨d1,g1,U,h1⟩:=C.get (i:=g) ω;obtain⟨d2,g2,W,h2⟩:=C.get (i:=g+1) ω;have G:=l4.at (i:=g+1) ω;refine⟨_,rfl,_,rfl,_,_,rfl,rfl,T,_,_,_,rfl,rfl,SqL.of C.at_,by rw[e2];exact zh U,_,rfl,_,rfl,_,rfl,T,_,_,_,rfl,rfl,SqL.of C.at_,zh W,d1,d2,_,_,-1,rfl,h1,h2,G.1,fun x hx=>p ξ (G.2 x hx),fun Z H5 O jt e5=>?_⟩;refine⟨_,rfl,_,rfl,_,_,rfl,rfl,T,_,_,g,rfl,rfl,O _ _ C.at_,by rw[e2];exact ix (by have:=C.rows.len;(first|lia|omega)),?_⟩;have mF:=C.put (s0.trans dL) (Same.refl H4) O jt e5 (by simp) Z3 g;have ju:Same H (upd H5 T (.lst ((v.map V.ref).set g (.ref Z)))):=(dL.trans O).then eE;have kH:=(nM.same O).other (R:=T) (by simp) pj (o:=.lst ((v.map V.ref).set g (.ref Z)));have D:=(kU.same O).other (R:=T) (by simp) (Ne.symm pO) (o:=.lst ((v.map V.ref).set g (.ref Z)));have Z5:∀z∈[R,T,B],(upd H5 T (.lst ((v.map V.ref).set g (.ref Z)))) z≠none:=fun z hz=>by
    simp at hz;rcases hz with rfl|rfl|rfl
    ·rw[kH.at_];simp
    ·rw[za];simp
    ·rw[D.at_];simp
   have et2:(slT ub r i).set g (cV (rowAt (slT ub r i) g) (-1) (rowAt (slT ub r i) (g+1)))=slT ub r (i+1):=by
    show _=(slT ub r i).set (r-2-i) (cV (rowAt (slT ub r i) (r-2-i)) (-1) (rowAt (slT ub r i) (r-1-i)));rw[<-jW,J]
   rw[et2] at mF;generalize upd H5 T (.lst ((v.map V.ref).set g (.ref Z)))=H6 at kH ju mF D Z5 ⊢;obtain⟨d1,g1,U,h1⟩:=D.get (i:=g+1) ω;obtain⟨d2,g2,W,h2⟩:=D.get (i:=g) ω;have G:=az.at (i:=g) ω;refine⟨_,rfl,_,rfl,B,_,_,_,rfl,rfl,SqL.of D.at_,zh U,_,rfl,_,rfl,_,_,rfl,rfl,B,_,_,_,rfl,rfl,SqL.of D.at_,by rw[e2];exact zh W,d1,d2,_,_,1,rfl,h1,h2,G.1,fun x hx=>p ξ (G.2 x hx),fun D7 H7 S lW e7=>?_⟩;refine⟨_,rfl,_,rfl,B,_,_,g+1,rfl,rfl,S _ _ D.at_,ix (by have:=D.rows.len;(first|lia|omega)),?_⟩;have pM:=D.put (s0.trans ju) (Same.refl H6) S lW e7 (by simp) Z5 (g+1);have vx:=(kH.same S).other (R:=B) (by simp) qB (o:=.lst ((bs.map V.ref).set (g+1) (.ref D7)));have x8:=(mF.same S).other (R:=B) (by simp) pO (o:=.lst ((bs.map V.ref).set (g+1) (.ref D7)));have wj:(slB bb r i).set (g+1) (cV (rowAt (slB bb r i) (g+1)) 1 (rowAt (slB bb r i) g))=slB bb r (i+1):=by
    show _=(slB bb r i).set (r-1-i) (cV (rowAt (slB bb r i) (r-1-i)) 1 (rowAt (slB bb r i) (r-2-i)));rw[<-jW,J]
   rw[wj] at pM;exact⟨_,_,_,_,rfl,(ju.trans S).then mQ,vx,x8,pM⟩
  ·rintro σ H2 ⟨v5,rs,v,bs,rfl,sm,u,wT,wB⟩
   refine⟨_,rfl,_,rfl,_,rfl,by show 3<=sizeLine;decide,fun t' ht'=>?_⟩;have mH:=Same.new (o:=.tup [V.ref R,V.ref T,V.ref B]) ht';have nt:∀{Y:Addr}{ds:List Addr}{tx:Ξ},Wk H0 [R,T,B] H2 Y ds tx->H Y=none->Y∈[R,T,B]->NT H0 (upd H2 t' (.tup [V.ref R,V.ref T,V.ref B])) Y ds tx:=fun{Y ds tx} h hy hz=>
    ⟨mH _ _ h.at_,h.rows.same mH,h.nd,s0.free hy,fun d hd=>⟨(h.nw d hd).1,(h.nw d hd).2 Y hz⟩⟩
   exact k t' R T B rs v bs _ (sm.trans mH) za (nt u hR (by simp)) (nt wT eE (by simp)) (nt wB mQ (by simp))
end
end K22
end
section
namespace L2
open PySem PySem.Spec PyProof.Rows
section
variable{X:Cx}
def Jp{aa:Ψ}{σ:St}{H:Hp}{s:Shared}{l:Addr}{ns:List Int}(I:Inv X aa σ H s)(c:SqL X.K H l (ns.map V.int)):∃a,Reads s.heap (.ref l) (.list (ns.map PyData.int)) a:=by
 obtain⟨ad,r,p,_⟩:=I.list c;obtain⟨o,b,hc,n,hd⟩:=p.isList;exact⟨_,.list b hc hd ((PySem.W.ke_carried (intsAre_of r)).reads s.heap)⟩
def ue(ns:List Int):SeqAt.shaped (.list (ns.map PyData.int))=true:=by
 simp[SeqAt.shaped,PyData.canLay0,PySem.W.ke_canLayAll0,PyData.depth,PySem.W.ke_depthAll]
def Jq(ns:List Int):(Shape.list .int).has (.list (ns.map PyData.int))=true:=by simp[Shape.has]
def uv(K:Af):R2:=fun x y H Q=>∃l m ns ms,x=.ref l/\y=.ref m/\SqL K H l (List.map V.int ns)/\SqL K H m (List.map V.int ms)/\Q (.bl (decide (ns=ms))) H
def OP(hu:X.A.units+64<cLine):cx X (compareOp .Eq) (uv X.K):=by
 intro aa s σ H x y v u Q I a b h;obtain⟨l,m,ns,ms,rfl,rfl,c,d,q⟩:=h;cases a;cases b;obtain⟨a1,e⟩:=Jp I c;obtain⟨a2,f⟩:=Jp I d;refine eq_dataH_same e f (ue _) (ue _) hu (SeqAt.noMix_of_shape (.list .int) rfl _ _ (Jq _) (Jq _)) ?_;rw[show same (.list (ns.map PyData.int)) (.list (ms.map PyData.int))=decide (ns=ms) from by simp only[same];exact PySem.W.ke_sameAll ns ms];exact⟨.bl _,H,I,rfl,q⟩
end
end L2
end
section
namespace K22
open PySem L2
abbrev uA:Stmt:=top 30
abbrev uJ:Stmt:=top 31
abbrev C9:Stmt:=top 28
def Jr:A4 "enumerate"=some (.type "enumerate"):=δ
def jq{a:Type}(p:Nat->List Int->Bool)(g:Nat->List Int->a)(l:List (List Int×Nat)):List a:=(l.filter fun q=>p q.2 q.1).map fun q=>g q.2 q.1
section
variable{P:Program}{w:World}{K:Af}{mg:Str->Option Value}{base:Heap}
def Js{H2:Hp}{L D:Addr}{rs:List Addr}{tb:Ξ}{Q:VK}{A:Type}{mkV:A->V}{p:Nat->List Int->Bool}{g:Nat->List Int->A}{tc:TT}{te:TE}{c:List (Option V)}(M:∀(i:Nat)(o:Addr)(os:List Int)(H:Hp)(R:VK)(S:Hp->Prop),Same H2 H->H o=some (.lst (os.map V.int))->os∈tb->(p i os=true->∀H',Same H H'->R (mkV (g i os)) H')->(p i os=false->S H)->tc (some (.int i)::some (.ref o)::c) H fun b u=>if b=true then te (some (.int i)::some (.ref o)::c) u R else S u)(s:SqL K H2 L (rs.map V.ref))(C:Rws H2 rs tb)(hz:tb.length<=1000)(E:H2 D=none)(k:∀f,Same H2 f->f D=some (.lst ((jq p g tb.zipIdx).map mkV))->Q (.ref D) f):cm (Ey K L) (cw K 2 (cz (zH 0) (cz (zH 1) cv))) tc te (none::none::c) H2 D Q:=by
 have z:=C.len;refine rg tb.length (fun j σ ys f=>∃(l q:Option V),σ=l::q::c/\Same H2 f/\f D=some (.lst ys)/\ys=(jq p g (tb.zipIdx.take j)).map mkV) ?_ ?_ ?_ ?_ ?_
 ·exact⟨none,none,rfl,Same.new E,za,rfl⟩
 ·rintro σ ys f ⟨l,q,rfl,sm,d,rfl⟩
  exact⟨_,sm.seq s,by rw[Aa,z]⟩
 ·rintro i σ ys f hi ⟨l,q,rfl,sm,d,rfl⟩
  exact⟨_,sm.seq s,by rw[Aa,z];exact hi⟩
 ·rintro i σ ys f x H' hi hy ⟨l,q,rfl,sm,d,rfl⟩ ⟨pp,y,rfl,F,rfl,G⟩
  have J:=G _ (sm.seq s);obtain⟨a,I,rfl⟩:=iv J;obtain⟨r,w,hr⟩:=C.get I;have h:=Same.new (o:=.tup [.int i,.ref a]) F;have e:tb.zipIdx[i]?=some (r,i):=by rw[List.getElem?_zipIdx,w];simp
  refine⟨pp,_,rfl,SqT.of za,rfl,_,_,rfl,_,_,rfl,rfl,?_⟩;refine M i a r _ _ _ (sm.trans h) ((sm.trans h) _ _ hr) (Am w) (fun hp u v=>?_) (fun hp=>?_)
  ·refine bB (zp ω) hi hy ((h.trans v) _ _ d) ⟨_,_,rfl,((sm.trans h).trans v).then E,za,?_⟩
   rw[A8 e];unfold jq;rw[List.filter_append,Aq,Aq];simp[hp]
  ·refine gC hi hy ⟨_,_,rfl,sm.trans h,h _ _ d,?_⟩
   rw[A8 e];unfold jq;rw[List.filter_append];simp[hp]
 ·rintro σ ys f ⟨l,q,rfl,sm,d,rfl⟩
  rw[An (by simp)] at d;exact k f sm d
def c3(tb:Ξ):Bool:=(jq (fun _ _=>true) (fun k r=>decide (r=bM r k r.length)) tb.zipIdx).all id
def FJ:Sp:=fun vs H Q _=>∃L rs tb,vs=[.ref L]/\H L=some (.lst (rs.map V.ref))/\Rws H rs tb/\tb.length<=1000/\(∀r∈tb,r.length<=1000)/\∀H',Same H H'->Q (.bl (c3 tb)) H'
def OQ:zm ["table"] ["table"] (ze uA):=⟨rfl,rfl,rfl,δ,rfl,δ,δ⟩
def OR{f fs:Addr}{fd c:FuncData}(F:Fun K "is_on_slope" "is_on_slope" uA f fd)(G:mg "all"=none)(be:mg "enumerate"=none)(bl:mg "len"=none)(Fs:Fun K "slope_row" "slope_row" tM fs c)(bs:Binds K c ["numbers","k","width"] [])(ms:mg "slope_row"=some (.ref fs))(N:ar P w K mg base aK 1 fs c ["numbers","k","width"] tO):ar P w K mg base aK 2 f fd ["table"] FJ:=by
 refine F.ok OQ (fun vs H Q E h=>?_) (fun O A outer s H vs Q E hr h=>?_)
 ·obtain⟨L,rs,tb,rfl,_⟩:=h;rfl
 ·obtain⟨L,rs,tb,rfl,j,y,hz,hw,k⟩:=h
  have z:=hr.units;refine⟨_,zg (zq (zi (nq rfl) rfl G nI (af (zx ["table"] ["k","row"] [none,none] (HE rfl be Jr (af (pv 0) ah))
   (fun d C s₀ H₀ ex=>jM rfl (zM (zl (i:=0) (bF ["k","row"]) rfl (Or.inl rfl)) (zM (zl (i:=1) (bF ["k","row"]) rfl (Or.inl rfl)) jK))) (fun d C s₀ H₀ ex=>zA)
   (fun d C s₀ H₀ ex=>iY (OP z) (pv 1) (zf N hr rfl ms Fs.kp bs .nil ak (af (pv 1) (af (pv 0) (af (zi zo rfl bl de (af (pv 1) ah)) ah)))) (av _))
   (te:=bI (uv K) (aw 1) (fY tO [] E0 (zO (aw 1) (zO (aw 0) (zO (mX (ED K) (zO (aw 1) bL)) bL))))) (hfr:=cU δ) (g:=cw K 2 (cz (zH 0) (cz (zH 1) cv)))) ah))),?_⟩
  refine⟨_,rfl,L,rfl,⟨_,SqL.of j⟩,fun D l=>zy (Js (mkV:=V.bl) (p:=fun _ _=>true) (g:=fun k r=>decide (r=bM r k r.length)) (fun i o os H' R S sm a q u T=>fK ?_) (SqL.of j) y hz l fun I v b=>⟨D,_,rfl,SqL.of b,k I v⟩)⟩;refine⟨_,rfl,_,rfl,_,rfl,_,rfl,o,_,rfl,.inl (SqL.of a),o,os,i,os.length,by rw[Aa];rfl,a,hw os q,fun h=>h,fun J M e U x=>?_⟩;exact⟨o,J,os,_,rfl,rfl,SqL.of (e _ _ a),SqL.of x,u rfl M e⟩
def ci(tb:Ξ):List Int:=jq (fun k r=>decide (k<r.length)&&decide (vc r k≠0)) (fun k r=>vc r k) tb.zipIdx
def FK:Sp:=fun vs H Q _=>∃L rs tb,vs=[.ref L]/\H L=some (.lst (rs.map V.ref))/\Rws H rs tb/\tb.length<=1000/\nV H Q (ci tb)
def OS:zm ["table"] ["table"] (ze uJ):=⟨rfl,rfl,rfl,δ,rfl,δ,δ⟩
def OT{f:Addr}{fd:FuncData}(F:Fun K "slope_of" "slope_of" uJ f fd)(be:mg "enumerate"=none)(bl:mg "len"=none):ar P w K mg base aK 1 f fd ["table"] FK:=by
 refine F.ok OS (fun vs H Q E h=>?_) (fun z A outer s H vs Q E hr h=>?_)
 ·obtain⟨L,rs,tb,rfl,_⟩:=h;rfl
 ·obtain⟨L,rs,tb,rfl,q,x,hz,k⟩:=h
  refine⟨_,zg (zq (zx ["table"] ["k","row"] [none,none] (HE rfl be Jr (af (pv 0) ah))
   (fun c C s₀ H₀ ex=>jM rfl (zM (zl (i:=0) (bF ["k","row"]) rfl (Or.inl rfl)) (zM (zl (i:=1) (bF ["k","row"]) rfl (Or.inl rfl)) jK)))
   (fun c C s₀ H₀ ex=>zc (PW.pt (DU (zw p_ (pv 0) (zi zo rfl bl de (af (pv 1) ah)) (av _)) (DT (zw ik (zu zr (pv 1) (pv 0) (fun _ _=>rfl)) zd (av _))))))
   (fun c C s₀ H₀ ex=>zu zr (pv 1) (pv 0) (fun _ _=>rfl)) (te:=bI (fA K) (aw 1) (aw 0)) (tc:=pu (mV (bI (eO fun i j=>.bl (decide (i<j))) (aw 0) (mX (ED K) (zO (aw 1) bL)))) (mV (bI p8 (bI (fA K) (aw 1) (aw 0)) (tC (.int 0))))) (hfr:=cU δ) (g:=cw K 2 (cz (zH 0) (cz (zH 1) cv))))),?_⟩
  refine⟨_,rfl,L,rfl,⟨_,SqL.of q⟩,fun D d=>zy (Js (mkV:=V.int) (p:=fun k r=>decide (k<r.length)&&decide (vc r k≠0)) (g:=fun k r=>vc r k) (fun i o os H' R S sm a G u l=>?_) (SqL.of q) x hz d fun y v b=>k D y v d b)⟩;refine⟨_,rfl,_,rfl,o,_,rfl,.inl (SqL.of a),_,_,rfl,rfl,_,rfl,?_⟩;rw[Aa]
  by_cases c1:i<os.length
  ·rw[decide_eq_true (show((i:Nat):Int)<((os.length:Nat):Int) from ω)]
   refine aW ⟨_,rfl,_,rfl,o,_,_,_,rfl,rfl,SqL.of a,zh (fM c1),rfl,_,rfl,?_⟩
   by_cases c2:vc os i=0
   ·rw[show(!decide (V.int (vc os i)=V.int 0))=false by rw[c2];rfl]
    exact aR (l (by rw[c2];simp))
   ·rw[show(!decide (V.int (vc os i)=V.int 0))=true by rw[decide_eq_false (fun e=>c2 (by injection e))];rfl]
    exact aW ⟨_,rfl,_,rfl,o,_,_,_,rfl,rfl,SqL.of a,zh (fM c1),u (by simp[c1,c2]) H' (Same.refl H')⟩
  ·rw[decide_eq_false (show ¬((i:Nat):Int)<((os.length:Nat):Int) from ω)]
   exact aR (aR (l (by simp[c1])))
def cD(tb:Ξ):Bool:=c3 tb&&eB (ci tb) tb.length
def Jt:Sp:=fun vs H Q _=>∃L rs tb,vs=[.ref L]/\H L=some (.lst (rs.map V.ref))/\Rws H rs tb/\tb.length<=1000/\(∀r∈tb,r.length<=1000)/\∀H',Same H H'->Q (.bl (cD tb)) H'
def OU:zm ["table"] ["table"] (ze C9):=⟨rfl,rfl,rfl,δ,rfl,δ,δ⟩
def OV{tb:Ξ}:(ci tb).length<=tb.length:=by
 unfold ci jq;rw[Aa];exact Ag (List.length_filter_le _ _) (by simp)
def OW{f fo fs fa:Addr}{fd i j l:FuncData}(F:Fun K "is_in_steps" "is_in_steps" C9 f fd)(bl:mg "len"=none)(Fo:Fun K "is_on_slope" "is_on_slope" uA fo i)(r:Binds K i ["table"] [])(u:mg "is_on_slope"=some (.ref fo))(z:ar P w K mg base aK 2 fo i ["table"] FJ)(Fs:Fun K "slope_of" "slope_of" uJ fs j)(bs:Binds K j ["table"] [])(ms:mg "slope_of"=some (.ref fs))(C:ar P w K mg base aK 1 fs j ["table"] FK)(Fa:Fun K "are_steps" "are_steps" C7 fa l)(v:Binds K l ["steps","most"] [])(x:mg "are_steps"=some (.ref fa))(G:ar P w K mg base aK 1 fa l ["steps","most"] Jk):ar P w K mg base aK 3 f fd ["table"] Jt:=by
 refine F.ok OU (fun vs H Q E h=>?_) (fun I A outer s H vs Q E hr h=>?_)
 ·obtain⟨L,rs,tb,rfl,_⟩:=h;rfl
 ·obtain⟨L,rs,tb,rfl,d,g,hz,hw,k⟩:=h
  have b:Room 1 _:=hr.mono ξ;refine⟨_,zg (zq (kf (zf z hr rfl u Fo.kp r .nil ak (af (pv 0) ah)) (mK (zf G b rfl x Fa.kp v .nil ak (af (zf C b rfl ms Fs.kp bs .nil ak (af (pv 0) ah)) (af (zi zo rfl bl de (af (pv 0) ah)) ah)))))),?_⟩;refine⟨_,rfl,L,rs,tb,rfl,d,g,hz,hw,fun H1 a=>⟨_,rfl,?_⟩⟩;have q:=g.len;cases c:c3 tb with
  |false=>
   have e:cD tb=false:=by unfold cD;rw[c];rfl
   rw[e] at k;exact aR (k H1 a)
  |true=>
   refine aW ⟨_,rfl,L,rs,tb,rfl,a _ _ d,g.same a,hz,fun D H2 o J e2=>⟨_,rfl,L,_,rfl,.inl (SqL.of ((a.trans o) _ _ d)),D,ci tb,_,rfl,e2,Ag OV hz,fun y p=>?_⟩⟩;have e:cD tb=eB (ci tb) (tb.length:Int):=by unfold cD;rw[c];rfl
   rw[e] at k;rw[Aa,q];exact k y ((a.trans o).trans p)
end
end K22
end
section
namespace Tb
def Bd.mono{N M X B d i j:Nat}{R:List Vc}(h:Bd N M X B R)(u:M<=d)(v:X<=i)(w:B<=j):Bd N d i j R:=
 ⟨h.ind,fun P f e s r g l=>by
  obtain⟨a,b,c⟩:=h.bd P f e s r g l;exact⟨fun p hp=>Ag (a p hp) w,fun r hr p hp=>Ag (b r hr p hp) u,fun o V hc q x hx=>Ag (c o V hc q x hx) (Ak _ (Ak _ v))⟩⟩
def Tri.row{k r w M g N X B:Nat}{ρ f:Nat->Vc}{Q:Nat->Nat}{P:List Nat}(T:Tri k r w M g ρ Q){i:Nat}(hi:i<k)(F:FS N M X B ((Ah i).map ρ) P f):∀p∈P,(ρ i p).natAbs<=M:=fun p hp=>by
 have e:=T.places ω F.ech F.srt (fun p hp=>(F.fr p hp).sp) (by rw[F.len];simp);rw[e] at hp;refine T.rows_le (j:=i+1) ω ω ?_;unfold pl at hp ⊢;rcases List.mem_append.mp hp with h|h
 ·exact A6 _ (List.mem_range.mpr (by have:=List.mem_range.mp h;(first|lia|omega)))
 ·obtain⟨a,b,rfl⟩:=List.mem_map.mp h
  exact AE _ (List.mem_map.mpr ⟨a,List.mem_range.mpr (by have:=List.mem_range.mp b;(first|lia|omega)),rfl⟩)
def xW(N b:Nat):Nat:=1+2*b+(2+2*b)*N
def xK(N n m x b:Nat):Nat:=2+(n+(m+(b+1)*N+(n+(b+x))))
def xE(N n m x b:Nat):Nat:=1+(n+(n+(xK N n m x b+(2+b+n+xW N b)*N+m)+(b+1)*N+(n+(b+x))))
def pw{a b:Nat}(h:a<=b):2 ^ a<=2 ^ b:=AA ξ h
def zv{x y a b:Nat}(h1:x<=2 ^ a)(h2:y<=2 ^ b):x*y<=2 ^ (a+b):=by rw[Nat.pow_add];exact AL h1 h2
def OX{b:Nat}:1+2 ^ b<=2 ^ (b+1):=by have:=AT (n:=b);rw[Nat.pow_succ];(first|lia|omega)
def C_{x y a:Nat}(h1:x<=2 ^ a)(h2:y<=2 ^ a):x+y<=2 ^ (1+a):=by rw[Nat.add_comm 1,Nat.pow_succ];(first|lia|omega)
section
variable{N n m x b:Nat}
def lh(a:N<=2 ^ n):cC N (2 ^ x) (2 ^ b)<=2 ^ (n+(b+x)):=zv a (zv (Ae _) (Ae _))
def jw:(1+2 ^ b) ^ N<=2 ^ ((b+1)*N):=by rw[Nat.pow_mul];exact Nat.pow_le_pow_left OX _
def OY:cW N (2 ^ b)<=2 ^ xW N b:=by
 unfold cW xW;have e:2*2 ^ b*2 ^ b=2 ^ (1+2*b):=by
  have h:2*b=b+b:=ω
  rw[h,Nat.pow_add,Nat.pow_add,Nat.pow_one,AN]
 rw[e];refine zv (Ae _) ?_;have:=jw (N:=N) (b:=1+2*b)
 rwa [show 1+2*b+1=2+2*b from ω] at this
def OZ(h1:1<=N)(c:N<=2 ^ n):cG N (2 ^ b)<=2 ^ (2+b+n+xW N b):=by
 unfold cG;have h2:2*2 ^ b<=2 ^ (1+b):=by rw[Nat.pow_add];exact Ae _
 have a:1+N*cW N (2 ^ b)<=2 ^ (1+(n+xW N b)):=C_ (AT) (zv c OY);have:=zv h2 a
 rwa [show 1+b+(1+(n+xW N b))=2+b+n+xW N b from ω] at this
def O0(a:N<=2 ^ n):cK N (2 ^ m) (2 ^ x) (2 ^ b)<=2 ^ xK N n m x b:=by
 unfold cK xK;have h1:=lh (x:=x) (b:=b) a;have h2:N*(2 ^ m*(1+2 ^ b) ^ N*cC N (2 ^ x) (2 ^ b))<=2 ^ (n+(m+(b+1)*N+(n+(b+x)))):=zv a (zv (zv (Ae _) jw) h1);have c:1+cC N (2 ^ x) (2 ^ b)<=2 ^ (1+(n+(m+(b+1)*N+(n+(b+x))))):=C_ AT (Ag h1 (pw ω));have:=C_ c (Ag h2 (pw (Nat.le_add_left _ 1)))
 rwa [<-Nat.add_assoc] at this
def O1(h1:1<=N)(a:N<=2 ^ n):cE N (2 ^ m) (2 ^ x) (2 ^ b)<=2 ^ xE N n m x b:=by
 have c:cM N (2 ^ m) (2 ^ x) (2 ^ b)<=2 ^ (xK N n m x b+(2+b+n+xW N b)*N):=by
  unfold cM;refine zv (O0 a) ?_;rw[Nat.pow_mul];exact Nat.pow_le_pow_left (OZ h1 a) _
 unfold cE xE;refine C_ (Ag c (pw ω)) ?_;exact zv a (zv (zv (zv a (zv c (Ae _))) jw) (lh a))
def O2{e x' b':Nat}(h1:m<=e)(h2:x<=x')(f:b<=b'):xE N n m x b<=xE N n e x' b':=by
 unfold xE xK xW;have a:(b+1)*N<=(b'+1)*N:=Al _ ω;have c:(2+2*b)*N<=(2+2*b')*N:=Al _ ω;have d:(2+b+n+(1+2*b+(2+2*b)*N))*N<=(2+b'+n+(1+2*b'+(2+2*b')*N))*N:=Al _ ω;(first|lia|omega)
end
section
variable{A T U V T' U' V':Nat->Vc}{k w r D bU bV g:Nat}{Bn Bf:List Vc}{QU QV:Nat->Nat}
def iH{n:Nat}{W W':Nat->Vc}(h:∀i,i<n->W i=W' i):tl n W=tl n W':=Ba fun i hi=>h i (List.mem_range.mp hi)
def Ker.cg{n b:Nat}{W W':Nat->Vc}{Q:Nat->Nat}(hr:r<=n)(K:Ker n r g b W Q)(h:∀i,i<n->W i=W' i):Ker n r g b W' Q:=
 ⟨K.qs,fun a u d hu=>by rw[<-h _ ω];exact K.kz a u d hu,fun a d=>by rw[<-h _ ω];exact K.kp a d,fun a c h1 h2=>by rw[<-h _ ω,<-h _ ω];exact K.kq a c h1 h2,fun i a hi d=>by rw[<-h i ω,<-h _ ω];exact K.tq i a hi d,fun a d=>by rw[<-h _ ω];exact K.km a d⟩
def LI.cg(I:LI A k w r D bU bV g T U V Bn Bf QU QV)(a:∀u i,u<w->i<k->T u i=T' u i)(b:∀i,i<k->U i=U' i)(c:∀u,u<w->V u=V' u):LI A k w r D bU bV g T' U' V' Bn Bf QU QV:=by
 have rk:=I.rk;have d:=I.rw;refine⟨rk,d,I.g1,fun u i hu hi=>?_,?_,?_,I.ku.cg rk b,I.kv.cg d c,fun u hu=>?_,fun u i hu hi=>?_,fun u i h1 h2=>?_,fun u i hu hi h=>?_,fun m e=>?_⟩
 ·rw[<-a u i hu hi,<-b i hi,<-c u hu];exact I.bl u i hu hi
 ·rw[<-iH b];exact I.bu
 ·rw[<-iH c];exact I.bv
 ·rw[<-a u u ω ω];exact I.tp u hu
 ·rw[<-a u i ω ω];exact I.tz u i hu hi
 ·rw[<-a u i ω ω,<-a i i ω ω];exact I.tr u i h1 h2
 ·rw[<-a u i hu hi];exact I.to u i hu hi h
 ·rw[<-iB fun i hi=>a i i ω ω];exact I.pd m e
def LI.small(I:LI A k w r D bU bV g T U V Bn Bf QU QV){u i:Nat}(hu:u<w)(hi:i<k):(T u i).natAbs<=D:=by
 have rk:=I.rk;have a:=I.rw
 by_cases h:r<=u\/r<=i
 ·rw[I.to u i hu hi h];exact AB _
 ·rcases Nat.lt_trichotomy u i with g|g|g
  ·have:=I.tr u i g ω
   have:=I.diag_le (i:=i) ω;(first|lia|omega)
  ·subst g;exact I.diag_le ω
  ·rw[I.tz u i ω g];exact AB _
def LM.small{S:Nat->Vc}(I:LM A k w r D bU bV g S U V Bn Bf QU QV){u i:Nat}(hu:u<w)(hi:i<k):(S i u).natAbs<=D:=by
 have rk:=I.rk;have a:=I.rw
 by_cases h:r<=u
 ·have:=I.sl.z u i h hu hi
  have this:S i u=0:=this;rw[this];exact AB _
 ·rcases Nat.lt_trichotomy u i with g|g|g
  ·have this:S i u=0:=I.sl.tz u i ω g hi
   rw[this];exact AB _
  ·subst g;exact I.diag_le ω
  ·have this:(S i u).natAbs<=(S u u).natAbs:=I.sl.tl u i ω g
   exact Ag this (I.diag_le ω)
def Dg.cg(h:Dg r T)(rk:r<=k)(rw:r<=w)(a:∀u i,u<w->i<k->T u i=T' u i):Dg r T':=fun u i hu hi ne=>by rw[<-a u i ω ω];exact h u i hu hi ne
def Ju:∀r,(∀i,i<r->T i i=T' i i)->mu T r=mu T' r
 |0,_=>rfl
 |r+1,h=>by
  show mu T r+_=mu T' r+_;rw[Ju r fun i hi=>h i ω,iB fun i hi=>h i hi]
def O3(h:∀u i,u<r->i<r->T u i=T' u i):ms r T=ms r T':=by
 unfold ms;rw[Ju r fun i hi=>h i i hi hi];have:Dg r T↔Dg r T':=⟨fun d u i hu hi ne=>by rw[<-h u i hu hi];exact d u i hu hi ne,fun d u i hu hi ne=>by rw[h u i hu hi];exact d u i hu hi ne⟩
 by_cases c:Dg r T
 ·rw[if_pos c,if_pos (this.mp c)]
 ·rw[if_neg c,if_neg fun z=>c (this.mpr z)]
end
end Tb
end
section
namespace K22
open PySem L2
def fn(tb:Ξ):Nat->Tb.Vc:=fun i=>vc (rowAt tb i)
def zI{tb:Ξ}{i:Nat}{r:List Int}(h:tb[i]?=some r):rowAt tb i=r:=by unfold rowAt;rw[Ab,h];rfl
def zB{tb:Ξ}{i:Nat}(h:i<tb.length):rowAt tb i∈tb:=by rw[zI (Ac h)];exact AI _
def uT{tb:Ξ}{i:Nat}(h:tb.length<=i):rowAt tb i=[]:=by unfold rowAt;rw[Ab,List.getElem?_eq_none h];rfl
def Da{tb:Ξ}{r:List Int}(h:r∈tb):∃i,i<tb.length/\rowAt tb i=r:=by
 obtain⟨i,hi,rfl⟩:=Bg h;exact⟨i,hi,zI (Ac hi)⟩
def lw{l:List Int}{u:Nat}(h:u<l.length):vc l u=l[u]:=by unfold vc;rw[Ab,Ac h];rfl
def O4{a b:List Int}{m u:Nat}(h:a.length=m):vc (a++b) u=if u<m then vc a u else vc b (u-m):=by
 unfold vc;rw[Ab,Ab,Ab]
 by_cases c:u<m
 ·rw[if_pos c,List.getElem?_append_left ω]
 ·rw[if_neg c,List.getElem?_append_right ω,h]
def O5{a:List Int}{m u:Nat}:vc (a.take m) u=if u<m then vc a u else 0:=by
 unfold vc;rw[Ab,Ab,List.getElem?_take];split<;>rfl
def O6{a:List Int}{m u:Nat}:vc (a.drop m) u=vc a (m+u):=by
 unfold vc;rw[Ab,Ab,List.getElem?_drop]
def Jv{tb:Ξ}{n:Nat}(h:tb.length=n):tb.map vc=Tb.tl n (fn tb):=by
 unfold Tb.tl;apply AX
 ·simp[h]
 ·intro i h1 h2
  rw[AW,AW,AZ];show _=vc (rowAt tb i);rw[Aa] at h1;rw[zI (Ac h1)]
section
variable{tb ub:Ξ}{m n:Nat}
def lA(l1:tb.length=n)(l2:ub.length=n):(cat tb ub).length=n:=by unfold cat;rw[AF,l1,l2,Nat.min_self]
def Jw(l1:tb.length=n)(l2:ub.length=n){i:Nat}(hi:i<n):rowAt (cat tb ub) i=rowAt tb i++rowAt ub i:=by
 have h1:=Ac (show i<tb.length from ω);have h2:=Ac (show i<ub.length from ω);rw[zI h1,zI h2];refine zI ?_;unfold cat;rw[List.getElem?_zipWith,h1,h2]
def FM(l1:tb.length=n)(l2:ub.length=n)(a:∀r∈tb,r.length=m){i:Nat}(hi:i<n):fn (cat tb ub) i=Tb.glue m (fn tb) (fn ub) i:=funext fun u=>by
 unfold fn Tb.glue;rw[Jw l1 l2 hi,O4 (a _ (zB ω))]
def Db(l1:tb.length=n)(l2:ub.length=n)(a:∀r∈tb,r.length=m):(cat tb ub).map vc=Tb.tl n (Tb.glue m (fn tb) (fn ub)):=by
 rw[Jv (lA l1 l2)];exact Tb.iH fun i hi=>FM l1 l2 a hi
def O7{ρ:Nat->Tb.Vc}{i:Nat}(h:i<=n):(Tb.tl n ρ).take i=Tb.tl i ρ:=by
 unfold Tb.tl;rw[<-List.map_take,List.take_range,Nat.min_eq_left h]
def Jx(l1:tb.length=n)(l2:ub.length=n)(a:∀r∈tb,r.length=m){i:Nat}(hi:i<=n):((cat tb ub).take i).map vc=Tb.tl i (Tb.glue m (fn tb) (fn ub)):=by
 rw[List.map_take,Db l1 l2 a,O7 hi]
end
def FN{fr:Nat->List Int}{W:Nat}:∀{ps:List Nat}{rn:List Int},rn.length=W->(∀p∈ps,(fr p).length=W)->shrL fr rn ps=Tb.shr (vF fr) ps (vc rn)
 |[],_,_,_=>rfl
 |p::ps,rn,h,h2=>by
  have hp:=h2 p (At ..);show _::shrL fr (cB fr rn p) ps=_::Tb.shr (vF fr) ps (Tb.step (vF fr) p (vc rn));rw[FN (ps:=ps) (EO h hp) fun q hq=>h2 q (Ay _ hq),Io ω]
  rfl
structure Side(N M X B Y m n:Nat)(tb ub bb:Ξ):Prop where
 l1:tb.length=n
 l2:ub.length=n
 l3:bb.length=n
 w1:∀r∈tb,r.length=m
 w2:∀r∈ub,r.length=n
 w3:∀r∈bb,r.length=n
 n40:n<=40
 m40:m<=40
 nN:n<=N
 N1:1<=N
 N64:N<64
 bd:∀j,j<=n->Tb.Bd N M X B (Tb.tl j (Tb.glue m (fn tb) (fn ub)))
 row:∀i,i<n->∀P f,Tb.FS N M X B (Tb.tl i (Tb.glue m (fn tb) (fn ub))) P f->∀p∈P,(Tb.glue m (fn tb) (fn ub) i p).natAbs<=M
 hY:∀i,i<n->∀u,(Tb.glue m (fn tb) (fn ub) i u).natAbs<=Y
 B1:1<=B
 X1:1<=X
 Y1:1<=Y
 piv:B<2 ^ 9000
 lim:N*(Tb.cE N M X B*Y)<big
 bk:∀r∈bb,∀x∈r,x.natAbs<big
section
variable{N M X B Y m n:Nat}{tb ub bb:Ξ}
def Side.lenW(S:Side N M X B Y m n tb ub bb):∀r∈cat tb ub,r.length=m+n:=fun r hr=>by
 obtain⟨i,hi,rfl⟩:=Da hr;rw[lA S.l1 S.l2] at hi;rw[Jw S.l1 S.l2 hi,AJ,S.w1 _ (zB (by rw[S.l1];exact hi)),S.w2 _ (zB (by rw[S.l2];exact hi))]
def Side.mem(S:Side N M X B Y m n tb ub bb):∀r∈cat tb ub,∃i,i<n/\vc r=Tb.glue m (fn tb) (fn ub) i:=fun r hr=>by
 obtain⟨i,hi,rfl⟩:=Da hr;rw[lA S.l1 S.l2] at hi;exact⟨i,hi,FM S.l1 S.l2 S.w1 hi⟩
def Side.cC1(S:Side N M X B Y m n tb ub bb):1<=Tb.cC N X B:=Nat.mul_pos S.N1 (Nat.mul_pos S.B1 S.X1)
def Side.cK_le(S:Side N M X B Y m n tb ub bb):N*(Tb.cK N M X B*Y)<big:=
 Ax (Ak _ (Al _ (Ag (Tb.FB S.B1) Tb.oA))) S.lim
def Side.at(S:Side N M X B Y m n tb ub bb){P:List Nat}{f:Nat->Tb.Vc}(F:Tb.FS N M X B ((cat tb ub).map vc) P f):∀r∈cat tb ub,∀p∈P,(vc r p).natAbs<=M:=by
 rw[Db S.l1 S.l2 S.w1] at F;have h:=((S.bd n (Ae _)).bd P f F.ech F.srt F.gen (fun p hp=>(F.fr p hp).sp) F.len).2.1;intro r hr p hp;refine h (vc r) ?_ p hp;obtain⟨i,hi,e⟩:=S.mem r hr;rw[e];exact List.mem_map.mpr ⟨i,List.mem_range.mpr hi,rfl⟩
def O8{R:List Tb.Vc}{P:List Nat}{f:Nat->Tb.Vc}(F:Tb.FS N M X B R P f):∀p∈P,∀q∈P,(f p q).natAbs<=B:=fun p hp q hq=>by
 rcases Nat.lt_trichotomy p q with h|h|h
 ·have:=F.red p hp q hq h
  have:=F.piv q hq;(first|lia|omega)
 ·subst h;exact F.piv p hp
 ·rw[F.ech.z p hp q h];exact AB _
def Side.shr_le(S:Side N M X B Y m n tb ub bb){P:List Nat}{fr:Nat->List Int}(F:Tb.FS N M X B ((cat tb ub).map vc) P (vF fr))(b:Wid (m+n) P fr):∀r∈cat tb ub,∀x∈shrL fr r P,x.natAbs<=M*2 ^ n:=by
 intro r hr x hx;rw[FN (S.lenW r hr) fun p hp=>(b.row p hp).2] at hx;have a:P.length=n:=by rw[F.len,Aa,lA S.l1 S.l2]
 have:=Tb.N9 F.ech F.srt F.red (F.gen (vc r) (List.mem_map.mpr ⟨r,hr,rfl⟩)) (V:=M) (fun p hp=>Ag (S.at F r hr p hp) (Nat.le_mul_of_pos_right _ (by have:=F.ech.pos p hp;(first|lia|omega)))) x hx
 rwa [a] at this
def Side.ok(S:Side N M X B Y m n tb ub bb):Jm N M X B Y m n tb ub bb:=by
 have a:=lA S.l1 S.l2;have l:∀r∈(cat tb ub).map vc,∀u,(r u).natAbs<=Y:=fun r hr u=>by
  obtain⟨q,hq,rfl⟩:=List.mem_map.mp hr;obtain⟨i,hi,e⟩:=S.mem q hq;rw[e];exact S.hY i hi u
 refine⟨S.l1,S.l2,S.l3,S.w1,S.w3,S.n40,by have:=S.m40;(first|lia|omega),S.w2,⟨by have:=S.m40;have:=S.n40;(first|lia|omega),by rw[a];exact S.nN,S.lenW,fun i hi=>?_,fun i r hr P f F p hp=>?_⟩,fun P fr F b r hr=>?_,fun P fr F b r hr x hx row g y hy=>?_⟩
 ·rw[a] at hi
  rw[Jx S.l1 S.l2 S.w1 ω];refine⟨S.B1,S.piv,S.lim,fun r hr u=>?_,S.N64,S.bd (i+1) ω⟩;obtain⟨j,h,rfl⟩:=List.mem_map.mp hr;exact S.hY j (by have:=List.mem_range.mp h;(first|lia|omega)) u
 ·have hi:i<n:=by have:=(List.getElem?_eq_some_iff.mp hr).1;rwa [a] at this
  rw[Jx S.l1 S.l2 S.w1 ω] at F;have:=S.row i hi P f F p hp
  rwa [<-FM S.l1 S.l2 S.w1 hi,fn,zI hr] at this
 ·have d:P.length=n:=by rw[F.len,Aa,a]
  have c:((cat tb ub).map vc).length<=N:=by rw[Aa,a];exact S.nN
  have e1:1+P.length*(M*(1+B) ^ P.length*Tb.cC N X B)<=Tb.cK N M X B:=by
   unfold Tb.cK;have:P.length*(M*(1+B) ^ P.length*Tb.cC N X B)<=N*(M*(1+B) ^ N*Tb.cC N X B):=AL (by rw[d];exact S.nN) (Al _ (Ak _ (AA ω (by rw[d];exact S.nN))));(first|lia|omega)
  refine NX (C:=1) (CF:=Tb.cC N X B) (V:=M) (VF:=B) l c F.fr (O8 F) F.ech.pos (fun p hp=>Ax (F.piv p hp) S.piv) b (S.lenW r hr) (Tb.Rep.mem (List.mem_map.mpr ⟨r,hr,rfl⟩)) (fun q hq=>S.at F r hr q hq) (fun p hp=>hp) ?_ ?_
  ·exact Ax (Ak _ (Al _ e1)) S.cK_le
  ·refine Ax (Ak _ (Al _ ?_)) S.cK_le
   unfold Tb.cK;(first|lia|omega)
 ·have h1:=S.shr_le F b r hr x hx
  refine CV ?_ (S.bk row g y hy);rw[Int.natAbs_neg];refine Ax h1 (Ax ?_ S.cK_le);have a1:2 ^ n<=(1+B) ^ N:=Ag (Nat.pow_le_pow_left (by have:=S.B1;(first|lia|omega)) _) (AA ω S.nN);have a2:M*2 ^ n<=M*(1+B) ^ N*Tb.cC N X B:=Ag (Ak _ a1) (Nat.le_mul_of_pos_right _ S.cC1);have a3:M*2 ^ n<=Tb.cK N M X B:=by
   unfold Tb.cK;have:=Nat.le_mul_of_pos_left (M*(1+B) ^ N*Tb.cC N X B) S.N1;(first|lia|omega)
  exact Ag a3 (Ag (Nat.le_mul_of_pos_right _ S.Y1) (Nat.le_mul_of_pos_left _ S.N1))
end
def Jy{w:Nat}:∀{ns:List Int}{tb:Ξ}{l:List Int},l.length=w->(∀r∈tb,r.length=w)->∀u,vc ((ns.zip tb).foldl b_ l) u=vc l u+Tb.cmb ns (tb.map vc) u
 |[],tb,l,_,_,u=>by cases tb<;>(show vc l u=vc l u+0;(first|lia|omega))
 |_::_,[],l,_,_,u=>by show vc l u=vc l u+0;(first|lia|omega)
 |x::ns,r::tb,l,hl,h,u=>by
  have hr:=h r (At ..);show vc ((ns.zip tb).foldl b_ (b_ l (x,r))) u=vc l u+(x*vc r u+Tb.cmb ns (tb.map vc) u);rw[Jy (Jg hl hr) (fun r hr=>h r (Ay _ hr)) u];have:vc (b_ l (x,r)) u=vc l u - -x*vc r u:=by
   unfold b_ cV;rw[CT (by simp) (show l.length=r.length from ω)]
  rw[this,Int.neg_mul];(first|lia|omega)
def Jz{w u:Nat}:vc (Au w 0) u=0:=by
 unfold vc;rw[Ab,List.getElem?_replicate];split<;>rfl
def O9{w:Nat}{ns:List Int}{tb:Ξ}(h:∀r∈tb,r.length=w):vc (fN w ns tb)=Tb.cmb ns (tb.map vc):=funext fun u=>by
 unfold fN;rw[Jy (List.length_replicate) h u,Jz];(first|lia|omega)
def O_{w:Nat}{ns:List Int}{tb:Ξ}(h:∀r∈tb,r.length=w):(fN w ns tb).length=w:=
 FG List.length_replicate fun z hz=>h z.2 (List.of_mem_zip hz).2
def Ent(tb:Ξ)(K:Nat):Prop:=∀i u,(fn tb i u).natAbs<=K
def Ent.mem{tb:Ξ}{K:Nat}(h:Ent tb K):∀r∈tb,∀x∈r,x.natAbs<=K:=fun r hr x hx=>by
 obtain⟨i,_,rfl⟩:=Da hr;obtain⟨u,_,rfl⟩:=CU hx;exact h i u
def Ent.mono{tb:Ξ}{K a:Nat}(h:Ent tb K)(hk:K<=a):Ent tb a:=fun i u=>Ag (h i u) hk
def oC{tb:Ξ}{K n:Nat}(a:tb.length=n)(h:∀i,i<n->∀u,(fn tb i u).natAbs<=K):Ent tb K:=fun i u=>by
 by_cases c:i<n
 ·exact h i c u
 ·unfold fn
  rw[uT ω];exact AB _
def JA{P:List Nat}{g:Nat->List Int}{i:Nat}(h:i<P.length):rowAt (P.map g) i=g (Tb.pp P i):=by
 refine zI ?_;unfold Tb.pp;rw[Aj,Ab,Ac h]
 rfl
def vr{n:Nat}{g:Nat->List Int}{i:Nat}(h:i<n):rowAt ((Ah n).map g) i=g i:=zI (by rw[Aj,AQ h];rfl)
def eH{n:Nat}{T:Ξ}{i:Nat}(h:i<n)(u:Nat):fn ((Ah n).map (colAt T)) i u=fn T u i:=by
 unfold fn;rw[vr h]
 by_cases c:u<T.length
 ·rw[zI (Ac c)]
  unfold colAt;show List.getD _ _ _=_;rw[Ab,Aj,Ac c]
  rfl
 ·rw[uT ω]
  show List.getD _ _ _=_;unfold colAt;rw[Ab,Aj,List.getElem?_eq_none ω]
  rfl
def zT{n:Nat}{T:Ξ}:((Ah n).map (colAt T)).length=n:=by simp
def jx{n w:Nat}{T:Ξ}(h:T.length=w):∀r∈(Ah n).map (colAt T),r.length=w:=fun r hr=>by
 obtain⟨j,_,rfl⟩:=List.mem_map.mp hr;unfold colAt;rw[Aa,h]
def oD{n i:Nat}(h:i<n):fn (unT n) i=Tb.un i:=funext fun t=>by
 unfold fn unT slpT;rw[vr h];unfold bM Tb.un Tb.dl vc;rw[List.length_replicate,if_pos h,Ab,List.getElem?_set,Ab,List.getElem?_replicate,if_pos h]
 by_cases c:i=t
 ·rw[if_pos c,if_pos c,List.length_replicate,if_pos h];rfl
 ·rw[if_neg c,if_neg c,List.getElem?_replicate]
  split<;>rfl
def Dc{n:Nat}:(unT n).length=n:=by unfold unT slpT;simp
def lF{n:Nat}:∀r∈unT n,r.length=n:=fun r hr=>by
 unfold unT slpT at hr;obtain⟨j,_,rfl⟩:=List.mem_map.mp hr;unfold bM;split<;>simp
section
variable{N M X B Y m n:Nat}{tb ub bb:Ξ}{P:List Nat}{fr:Nat->List Int}
structure Done(N M X B m n:Nat)(tb ub bb:Ξ)(P:List Nat)(fr:Nat->List Int)(mn dI j5:Ξ):Prop where
 fs:Tb.FS N M X B (Tb.tl n (Tb.glue m (fn tb) (fn ub))) P (vF fr)
 lP:P.length=n
 l1:mn.length=n
 l2:dI.length=n
 l3:j5.length=n
 w1:∀r∈mn,r.length=m
 w2:∀r∈dI,r.length=n
 w3:∀r∈j5,r.length=n
 f1:∀i u,i<n->u<m->fn mn i u=vF fr (Tb.pp P i) u
 f2:∀i,i<n->fn dI i=fun t=>vF fr (Tb.pp P i) (m+t)
 f3:Tb.tl n (fn j5)=Tb.lf n ((Tb.tl n (Tb.glue m (fn tb) (fn ub))).map fun r=>Tb.shr (vF fr) P r) (Tb.tl n (fn bb))
 e2:∀{a:Nat},Ent ub a->Ent dI (N*(Tb.cC N X B*a))
 e3:∀{b:Nat},Ent bb b->Ent j5 (N*(M*2 ^ N*b))
def Side.done(S:Side N M X B Y m n tb ub bb)(F:Tb.FS N M X B ((cat tb ub).map vc) P (vF fr))(f:Wid (m+n) P fr):Done N M X B m n tb ub bb P fr (P.map fun p=>(fr p).take m) (P.map fun p=>(fr p).drop m) (iG n ((cat tb ub).map fun r=>shrL fr r P) bb):=by
 have w:=S.shr_le F f;have g:=F;rw[Db S.l1 S.l2 S.w1] at g;have d:P.length=n:=by rw[F.len,Aa,lA S.l1 S.l2]
 have f2:∀i,i<n->fn (P.map fun p=>(fr p).drop m) i=fun t=>vF fr (Tb.pp P i) (m+t):=fun i hi=>funext fun t=>by
  unfold fn;rw[JA ω,O6]
  rfl
 have h:(iG n ((cat tb ub).map fun r=>shrL fr r P) bb).length=n:=by unfold iG;simp
 have l:∀j,j<n->fn (iG n ((cat tb ub).map fun r=>shrL fr r P) bb) j=Tb.cmb (colAt ((cat tb ub).map fun r=>shrL fr r P) j) (bb.map vc):=fun j c=>by
  unfold fn iG;rw[vr c,O9 S.w3]
 refine⟨g,d,by rw[Aa,d],by rw[Aa,d],h,fun r hr=>?_,fun r hr=>?_,fun r hr=>?_,fun i u hi hu=>?_,f2,?_,fun{a} o=>?_,fun{b} hb=>?_⟩
 ·obtain⟨p,hp,rfl⟩:=List.mem_map.mp hr
  rw[List.length_take,(f.row p hp).2];(first|lia|omega)
 ·obtain⟨p,hp,rfl⟩:=List.mem_map.mp hr
  rw[List.length_drop,(f.row p hp).2];(first|lia|omega)
 ·unfold iG at hr
  obtain⟨j,_,rfl⟩:=List.mem_map.mp hr;exact O_ S.w3
 ·unfold fn
  rw[JA ω,O5,if_pos hu]
  rfl
 ·have e:Tb.tl n (fn (iG n ((cat tb ub).map fun r=>shrL fr r P) bb))=(Ah n).map fun j=>Tb.cmb (colAt ((cat tb ub).map fun r=>shrL fr r P) j) (bb.map vc):=Ba fun j c=>l j (List.mem_range.mp c)
  rw[e];unfold Tb.lf;refine Ba fun j _=>funext fun s=>?_;rw[Jv S.l3];have e2:(Tb.tl n (Tb.glue m (fn tb) (fn ub))).map (fun r=>Tb.shr (vF fr) P r)=(cat tb ub).map fun r=>shrL fr r P:=by
   rw[<-Db S.l1 S.l2 S.w1,AV];exact Ba fun r hr=>(FN (S.lenW r hr) fun p hp=>(f.row p hp).2).symm
  rw[e2]
  rfl
 ·refine oC (n:=n) (by rw[Aa,d]) fun i hi u=>?_
  rw[f2 i hi];exact Tb.N_ g (fun i t hi=>o i t) _ (Tb.oy d hi) u
 ·refine oC h fun j c u=>?_
  rw[l j c];have z:(colAt ((cat tb ub).map fun r=>shrL fr r P) j).length=(bb.map vc).length:=by unfold colAt;rw[Aa,Aa,Aa,lA S.l1 S.l2,S.l3]
  have A:Tb.Rep (bb.map vc) (M*2 ^ n) (Tb.cmb (colAt ((cat tb ub).map fun r=>shrL fr r P) j) (bb.map vc)):=by
   refine⟨_,z,fun u=>rfl,fun x hx=>?_⟩;unfold colAt at hx;rw[AV] at hx;obtain⟨r,hr,rfl⟩:=List.mem_map.mp hx;show((shrL fr r P).getD j 0).natAbs<=_;rw[Ab];cases e:(shrL fr r P)[j]? with
   |none=>exact AB _
   |some y=>exact w r hr y (Am e)
  have:=A.le (u:=u) (M:=b) fun v q=>by
   obtain⟨r,hr,rfl⟩:=List.mem_map.mp q;obtain⟨i,_,rfl⟩:=Da hr;exact hb i u
  refine Ag this (AL (by rw[Aa,S.l3];exact S.nN) (Al _ (Ak _ (Tb.pw S.nN))))
end
end K22
end
section
namespace Tb
def Ker.mono{n r g g' b:Nat}{W:Nat->Vc}{Q:Nat->Nat}(K:Ker n r g b W Q)(h:g<=g'):Ker n r g' b W Q:=⟨K.qs,K.kz,K.kp,K.kq,fun i a hi c=>Ag (K.tq i a hi c) (Al _ h),K.km⟩
def LM.mono{A S U V:Nat->Vc}{k w r D bU bV g g':Nat}{Bn Bf:List Vc}{QU QV:Nat->Nat}(I:LM A k w r D bU bV g S U V Bn Bf QU QV)(h:g<=g'):LM A k w r D bU bV g' S U V Bn Bf QU QV:=⟨I.rk,I.rw,Ag I.g1 h,I.bl,I.bu,I.bv,I.ku.mono h,I.kv,I.sl,I.pd⟩
end Tb
namespace K22
open PySem L2
def x1(N n m:Nat):Nat:=(1+n+m)*N
def dd(N n m:Nat):Nat:=(2+n+m)*N
def be(N n m:Nat):Nat:=n+m+dd N n m
def m2(N n m:Nat):Nat:=2*n+be N n m+x1 N n m+m
def x2(N n m:Nat):Nat:=(1+n+m2 N n m)*N
def ga(N n m:Nat):Nat:=n+x2 N n m+m2 N n m
def Tm(N n m:Nat):Nat:=2*(N*dd N n m)+1
def kp(N n m:Nat):Nat:=ga N n m+(n+1)*N+2*n+1
def k0(N n m:Nat):Nat:=2*n+ga N n m+x2 N n m+m2 N n m+N+m
structure Good(N n m:Nat):Prop where
 N1:1<=N
 N40:N<=40
 Nn:N<=2 ^ n
 piv:ga N n m<9000
 m9:m<=900
 lim:n+Tb.xE N n (n*Tm N n m+ga N n m) ((n*Tm N n m+1)*N+x2 N n m) (ga N n m)+(k0 N n m+kp N n m*(Tm N n m+1))<67107860
def JB{a b:Nat}(h:a<=2 ^ b)(hb:b<67108864):a<big:=by
 unfold big;exact Ax h (Nat.pow_lt_pow_right ξ (by rw[la];exact hb))
noncomputable def low:Nat:=2 ^ (bt-1000)
def JC{a b:Nat}(h:a<=2 ^ b)(hb:b<67107864):a<low:=by
 unfold low;exact Ax h (Nat.pow_lt_pow_right ξ (by rw[la];exact hb))
def O'{a b:Nat}(h:a<=2 ^ b)(hb:b<67107863):a+1000<low:=by
 obtain⟨c,hc,hd⟩:∃c,bt-1000=c+1/\c=67107863:=⟨bt-1001,by rw[la],by rw[la]⟩;have h1:a<2 ^ c:=Ax h (Nat.pow_lt_pow_right ξ ω);have h2:2 ^ 10<=2 ^ c:=AA ξ ω;unfold low;rw[hc,Nat.pow_succ];have d:(2:Nat) ^ 10=1024:=ξ
 rw[d] at h2;generalize (2:Nat) ^ c=z at *;(first|lia|omega)
def JD{a:Nat}(h:a<low):a<big:=by
 unfold low at h;unfold big;exact Av h (AA ξ (Nat.sub_le _ _))
section
variable{N n m:Nat}
def hO(G:Good N n m):be N n m<=m2 N n m/\m2 N n m<=x2 N n m/\x2 N n m<=ga N n m/\dd N n m<=be N n m/\be N n m<=ga N n m/\x1 N n m<=m2 N n m:=by
 have h:m2 N n m<=x2 N n m:=by
  unfold x2;have:(1+n+m2 N n m)*1<=(1+n+m2 N n m)*N:=Ak _ G.N1;(first|lia|omega)
 unfold m2 at h ⊢;unfold ga be m2 at *;(first|lia|omega)
def Good.cE(G:Good N n m){M X B Y mu x y t:Nat}(c:∃b,B=2 ^ b/\b<=ga N n m)(d:M=2 ^ mu)(e:X=2 ^ x)(f:Y=2 ^ y)(g:t<=Tm N n m+1)(h1:mu<=n*Tm N n m+ga N n m)(h2:x<=(n*Tm N n m+1)*N+x2 N n m)(h:y<=k0 N n m+kp N n m*t):N*(Tb.cE N M X B*Y)<big:=by
 obtain⟨b,rfl,hb⟩:=c;subst d e f;have i:y<=k0 N n m+kp N n m*(Tm N n m+1):=Ag h (Nat.add_le_add_left (Ak _ g) _);have j:=Tb.O2 (N:=N) (n:=n) h1 h2 hb;have a:=G.lim;have a:n+Tb.xE N n (n*Tm N n m+ga N n m) ((n*Tm N n m+1)*N+x2 N n m) (ga N n m)+(k0 N n m+kp N n m*(Tm N n m+1))<67107860:=a;refine JB (Tb.zv G.Nn (Tb.zv (Tb.O1 G.N1 G.Nn) (Ae _))) ?_;(first|lia|omega)
def Good.entL(G:Good N n m){tb:Ξ}{y t:Nat}(h:Ent tb (2 ^ y))(a:t<=Tm N n m+1)(b:y<=k0 N n m+kp N n m*t):∀r∈tb,∀x∈r,x.natAbs<low:=fun r hr x hx=>by
 have c:y<=k0 N n m+kp N n m*(Tm N n m+1):=Ag b (Nat.add_le_add_left (Ak _ a) _);have d:n+Tb.xE N n (n*Tm N n m+ga N n m) ((n*Tm N n m+1)*N+x2 N n m) (ga N n m)+(k0 N n m+kp N n m*(Tm N n m+1))<67107860:=G.lim;exact JC (h.mem r hr x hx) ω
def Good.entM(G:Good N n m){tb:Ξ}{y t:Nat}(h:Ent tb (2 ^ y))(a:t<=Tm N n m+1)(b:y<=k0 N n m+kp N n m*t):∀r∈tb,∀x∈r,x.natAbs+1000<low:=fun r hr x hx=>by
 have c:y<=k0 N n m+kp N n m*(Tm N n m+1):=Ag b (Nat.add_le_add_left (Ak _ a) _);have d:=G.lim;exact O' (h.mem r hr x hx) ω
def Good.ent(G:Good N n m){tb:Ξ}{y t:Nat}(h:Ent tb (2 ^ y))(a:t<=Tm N n m+1)(b:y<=k0 N n m+kp N n m*t):∀r∈tb,∀x∈r,x.natAbs<big:=fun r hr x hx=>JD (G.entL h a b r hr x hx)
structure LS(N n m t e:Nat)(A:Nat->Tb.Vc)(k w r:Nat)(T U Bn V Bf:Ξ)(QU QV:Nat->Nat):Prop where
 kN:k<=N
 wN:w<=N
 lT:T.length=w
 lU:U.length=k
 lB:Bn.length=k
 lV:V.length=w
 lC:Bf.length=w
 wT:∀r∈T,r.length=k
 wU:∀r∈U,r.length=k
 wB:∀r∈Bn,r.length=k
 wV:∀r∈V,r.length=w
 wC:∀r∈Bf,r.length=w
 li:Tb.LI A k w r (2 ^ dd N n m) (2 ^ be N n m) (2 ^ ga N n m) (2 ^ e) (fn T) (fn U) (fn V) (Tb.tl k (fn Bn)) (Tb.tl w (fn Bf)) QU QV
 te:e<=n*t
 tm:t+Tb.ms r (fn T)<=Tm N n m
 eu:∃u,Ent U (2 ^ u)/\u+N*e<=k0 N n m+kp N n m*t
 eb:∃b,Ent Bn (2 ^ b)/\b+e<=k0 N n m+kp N n m*t
 ev:Ent V (2 ^ (k0 N n m+kp N n m*t))
 ec:Ent Bf (2 ^ (k0 N n m+kp N n m*t))
structure LH(N n m t e:Nat)(A:Nat->Tb.Vc)(k w r:Nat)(T S U Bn V Bf:Ξ)(S0 U0:Nat->Tb.Vc)(QU QV:Nat->Nat):Prop where
 kN:k<=N
 wN:w<=N
 lS:S.length=k
 lU:U.length=k
 lB:Bn.length=k
 lV:V.length=w
 lC:Bf.length=w
 wS:∀r∈S,r.length=w
 wU:∀r∈U,r.length=k
 wB:∀r∈Bn,r.length=k
 wV:∀r∈V,r.length=w
 wC:∀r∈Bf,r.length=w
 lm:Tb.LM A k w r (2 ^ dd N n m) (2 ^ be N n m) (2 ^ ga N n m) (2 ^ e) S0 U0 (fn V) (Tb.tl k (fn Bn)) (Tb.tl w (fn Bf)) QU QV
 hS:∀i u,i<k->u<w->fn S i u=S0 i u
 hU:∀i,i<k->U0 i=fn U i
 ms:∀{M2 X2 B2:Nat}{P2:List Nat}{f2:Nat->Tb.Vc},Tb.Tri w r k M2 1 (Tb.glue k (fun u i=>S0 i u) (fn V)) (fun a=>k+QV a)->Tb.FS N M2 X2 B2 (Tb.tl w (Tb.glue k (fun u i=>S0 i u) (fn V))) P2 f2->Tb.ms r (fun u=>f2 (Tb.pls r k QV u))<Tb.ms r (fn T)
 te:e<=n*(t+1)
 tm:t+Tb.ms r (fn T)<=Tm N n m
 eu:∃u,Ent U (2 ^ u)/\u+N*e<=k0 N n m+kp N n m*(t+1)
 eb:∃b,Ent Bn (2 ^ b)/\b+e<=k0 N n m+kp N n m*(t+1)
 ev:Ent V (2 ^ (k0 N n m+kp N n m*t))
 ec:Ent Bf (2 ^ (k0 N n m+kp N n m*t))
def Dd{q:Nat}{S a W W':Nat->Tb.Vc}{i:Nat}(h1:∀u,u<q->S i u=a i u)(h2:W i=W' i):Tb.glue q S W i=Tb.glue q a W' i:=funext fun u=>by
 unfold Tb.glue
 by_cases c:u<q
 ·rw[if_pos c,if_pos c,h1 u c]
 ·rw[if_neg c,if_neg c,h2]
def De{q:Nat}{S W:Nat->Tb.Vc}{i K:Nat}(h1:∀u,u<q->(S i u).natAbs<=K)(h2:∀t,(W i t).natAbs<=K)(u:Nat):(Tb.glue q S W i u).natAbs<=K:=by
 unfold Tb.glue
 by_cases c:u<q
 ·rw[if_pos c];exact h1 u c
 ·rw[if_neg c];exact h2 _
variable{t e k w r:Nat}{A:Nat->Tb.Vc}{T S U Bn V Bf:Ξ}{QU QV:Nat->Nat}{S0 U0:Nat->Tb.Vc}
def LH.rho(L:LH N n m t e A k w r T S U Bn V Bf S0 U0 QU QV){i:Nat}(hi:i<w):Tb.glue k (fn ((Ah w).map (colAt S))) (fn V) i=Tb.glue k (fun u i=>S0 i u) (fn V) i:=
 Dd (fun u hu=>by rw[eH hi];exact L.hS u i hu hi) rfl
def LH.tl(L:LH N n m t e A k w r T S U Bn V Bf S0 U0 QU QV){j:Nat}(a:j<=w):Tb.tl j (Tb.glue k (fn ((Ah w).map (colAt S))) (fn V))=Tb.tl j (Tb.glue k (fun u i=>S0 i u) (fn V)):=Tb.iH fun i hi=>L.rho ω
def LH.tri(G:Good N n m)(L:LH N n m t e A k w r T S U Bn V Bf S0 U0 QU QV):Tb.Tri w r k (2 ^ ga N n m) 1 (Tb.glue k (fun u i=>S0 i u) (fn V)) (fun a=>k+QV a):=by
 have h:=hO G;exact L.lm.far_tri (Ae _) (Tb.pw ω)
def LH.side(G:Good N n m)(L:LH N n m t e A k w r T S U Bn V Bf S0 U0 QU QV):Side N (2 ^ ga N n m) (2 ^ N) (2 ^ ga N n m) (2 ^ (k0 N n m+kp N n m*t)) k w ((Ah w).map (colAt S)) V Bf:=by
 have h:=hO G;have T2:=L.tri G;have d:=G.N40;have g:=L.tm;have l:=L.wN;refine⟨zT,L.lV,L.lC,jx L.lS,L.wV,L.wC,ω,by have:=L.kN;(first|lia|omega),L.wN,G.N1,ω,fun j b=>?_,fun i hi P f F p hp=>?_,fun i hi u=>?_,AT,AT,AT,Nat.pow_lt_pow_right ξ G.piv,?_,?_⟩
 ·rw[L.tl b]
  refine(Tb.IM T2 (B:=2 ^ ga N n m) (N:=N) (fun a c=>?_) (fun q hq=>?_) L.wN b).mono (Ae _) (by show(1+1) ^ N<=2 ^ N;exact Ae _) (Ae _)
  ·have:=T2.km a c;(first|lia|omega)
  ·rw[Tb.iB (g':=S0) fun i hi=>by rw[Tb.zQ (by have:=L.lm.rk;(first|lia|omega))]]
   exact Ag (L.lm.pd q hq) (Tb.pw ω)
 ·rw[L.tl ω] at F
  rw[L.rho hi];exact T2.row hi F p hp
 ·rw[L.rho hi]
  refine De (fun u hu=>Ag (L.lm.small (u:=i) (i:=u) hi hu) (Tb.pw ?_)) (fun s=>L.ev i s) u;unfold k0;(first|lia|omega)
 ·exact G.cE ⟨_,rfl,Ae _⟩ rfl rfl rfl (t:=t) ω ω (by have:1*N<=(n*Tm N n m+1)*N:=Al _ ω;(first|lia|omega)) (Ae _)
 ·exact G.ent (t:=t) L.ec ω (Ae _)
def jz:k0 N n m+kp N n m*(t+1)=k0 N n m+kp N n m*t+kp N n m:=by rw[Nat.mul_add,Nat.mul_one];(first|lia|omega)
def LH.next(G:Good N n m)(L:LH N n m t e A k w r T S U Bn V Bf S0 U0 QU QV){P:List Nat}{fr:Nat->List Int}{T' V' g:Ξ}(D:Done N (2 ^ ga N n m) (2 ^ N) (2 ^ ga N n m) k w ((Ah w).map (colAt S)) V Bf P fr T' V' g):LS N n m (t+1) e A k w r T' U Bn V' g QU QV:=by
 have T2:=L.tri G;have F:=D.fs;rw[L.tl (Ae _)] at F;obtain⟨h,J,_,_⟩:=L.lm.far_done T2 F;have l:=L.ms T2 F;have c:∀i,i<w->Tb.pp P i=Tb.pls r k QV i:=fun i hi=>by
  unfold Tb.pp;rw[h,Ab,Aj,AQ hi];rfl
 have d:∀u i,u<w->i<k->vF fr (Tb.pls r k QV u) i=fn T' u i:=fun u i hu hi=>by rw[D.f1 u i hu hi,c u hu]
 have rk:=J.rk;have o:=J.rw;have f:=D.f3;rw[L.tl (Ae _)] at f;have j:∀a b:Nat,2*n+ga N n m+N<=kp N n m:=fun _ _=>by unfold kp;rw[Nat.add_mul];(first|lia|omega)
 have h1:=j 0 0;refine⟨L.kN,L.wN,D.l1,L.lU,L.lB,D.l2,D.l3,D.w1,L.wU,L.wB,D.w2,D.w3,?_,L.te,?_,L.eu,L.eb,?_,?_⟩
 ·rw[<-f] at J
  exact J.cg d L.hU fun u hu=>by rw[D.f2 u hu,c u hu]
 ·rw[<-Tb.O3 (T:=fun u=>vF fr (Tb.pls r k QV u)) fun u i hu hi=>d u i ω ω]
  have:=L.tm;(first|lia|omega)
 ·refine(D.e2 L.ev).mono ?_
  rw[jz];refine Ag (Tb.zv G.Nn (Tb.zv (Tb.lh G.Nn) (Ae _))) (Tb.pw ?_);(first|lia|omega)
 ·refine(D.e3 L.ec).mono ?_
  rw[jz];refine Ag (Tb.zv G.Nn (Tb.zv (Tb.zv (Ae _) (Ae _)) (Ae _))) (Tb.pw ?_);(first|lia|omega)
end
end K22
end
section
namespace Tb
def JE{U:Nat->Vc}{r u:Nat}:∀(n i:Nat),ss U r n i u=ss (fun i _=>U i u) r n i 0
 |0,_=>rfl
 |n+1,i=>by show U i u+ss U r n (i+1) u=U i u+_;rw[JE n (i+1)]
def JF{C:Nat->Vc}{r:Nat}:∀(n:Nat),n+1<=r->∀i,gh C r n i=if r-n<=i/\i<r then(fun s=>C i s-C (i-1) s) else C i
 |0,h,i=>by show C i=_;rw[if_neg ω]
 |n+1,h,i=>by
  have a:=JF (C:=C) (r:=r) n ω;show put (gh C r n) (r-1-n) (fun s=>gh C r n (r-1-n) s-gh C r n (r-2-n) s) i=_
  by_cases e:i=r-1-n
  ·rw[e,zK,if_pos ω,a (r-1-n),a (r-2-n),if_neg ω,if_neg ω,show r-1-n-1=r-2-n from ω]
  ·rw[dh e,a i]
   by_cases h2:r-n<=i/\i<r
   ·rw[if_pos h2,if_pos ω]
   ·rw[if_neg h2,if_neg ω]
end Tb
namespace K22
open PySem L2
def JG{tb:Ξ}{j i:Nat}{x:List Int}(h:j<tb.length):rowAt (tb.set j x) i=if i=j then x else rowAt tb i:=by
 unfold rowAt;rw[Ab,Ab,List.getElem?_set]
 by_cases c:i=j
 ·rw[if_pos c.symm,if_pos c,if_pos h];rfl
 ·rw[if_neg (Ne.symm c),if_neg c]
def JH{a b:List Int}{q:Int}(h:a.length=b.length):vc (cV a q b)=fun u=>vc a u-q*vc b u:=by unfold cV;rw[CT (by simp) h]
def JI{a b:List Int}{q:Int}(h:a.length=b.length):(cV a q b).length=a.length:=by unfold cV;rw[AF];(first|lia|omega)
section
variable{tb:Ξ}{r W:Nat}
def oG(hr:r<=tb.length)(hw:∀x∈tb,x.length=W):∀n,n+1<=r->∀x∈slT tb r n,x.length=W
 |0,_,x,hx=>hw x hx
 |n+1,h,x,hx=>by
  have a:=oG hr hw n ω;have b:=lg (tb:=tb) (r:=r) n;rcases List.mem_or_eq_of_mem_set hx with hx|rfl
  ·exact a x hx
  ·rw[JI (by rw[a _ (zB ω),a _ (zB ω)])]
   exact a _ (zB ω)
def Dh(hr:r<=tb.length)(hw:∀x∈tb,x.length=W):∀n,n+1<=r->∀x∈slB tb r n,x.length=W
 |0,_,x,hx=>hw x hx
 |n+1,h,x,hx=>by
  have a:=Dh hr hw n ω;have b:=t4 (tb:=tb) (r:=r) n;rcases List.mem_or_eq_of_mem_set hx with hx|rfl
  ·exact a x hx
  ·rw[JI (by rw[a _ (zB ω),a _ (zB ω)])]
   exact a _ (zB ω)
def Di(hr:r<=tb.length)(hw:∀x∈tb,x.length=W):∀n,n+1<=r->fn (slT tb r n)=Tb.b4 (fn tb) r n
 |0,_=>rfl
 |n+1,h=>by
  have b:=Di hr hw n ω;have a:=oG hr hw n ω;have d:=lg (tb:=tb) (r:=r) n
  funext i
  show vc (rowAt ((slT tb r n).set (r-2-n) _) i)=Tb.put (Tb.b4 (fn tb) r n) (r-2-n) _ i;rw[JG ω,<-b];unfold Tb.put
  by_cases c:i=r-2-n
  ·rw[if_pos c,if_pos c,JH (by rw[a _ (zB ω),a _ (zB ω)])]
   funext u
   show vc _ u - -1*vc _ u=vc _ u+vc _ u;(first|lia|omega)
  ·rw[if_neg c,if_neg c];rfl
def FO(hr:r<=tb.length)(hw:∀x∈tb,x.length=W):∀n,n+1<=r->fn (slB tb r n)=Tb.gh (fn tb) r n
 |0,_=>rfl
 |n+1,h=>by
  have b:=FO hr hw n ω;have a:=Dh hr hw n ω;have d:=t4 (tb:=tb) (r:=r) n
  funext i
  show vc (rowAt ((slB tb r n).set (r-1-n) _) i)=Tb.put (Tb.gh (fn tb) r n) (r-1-n) _ i;rw[JG ω,<-b];unfold Tb.put
  by_cases c:i=r-1-n
  ·rw[if_pos c,if_pos c,JH (by rw[a _ (zB ω),a _ (zB ω)])]
   funext u
   show vc _ u-1*vc _ u=vc _ u-vc _ u;(first|lia|omega)
  ·rw[if_neg c,if_neg c];rfl
def FP(hr:r<=tb.length)(hw:∀x∈tb,x.length=W){K n:Nat}(h:n+1<=r)(a:Ent tb K):Ent (slT tb r n) (r*K):=fun i u=>by
 rw[Di hr hw n h,Tb.E_ n h];split
 ·exact Ag (Tb.E' (K:=K) (r-i) i fun j _ _=>a j u) (Al _ ω)
 ·exact Ag (a i u) (Nat.le_mul_of_pos_left _ ω)
def JJ(hr:r<=tb.length)(hw:∀x∈tb,x.length=W){K n:Nat}(h:n+1<=r)(a:Ent tb K):Ent (slB tb r n) (2*K):=fun i u=>by
 rw[FO hr hw n h,Tb.JF n h];split
 ·have h1:=a i u
  have h2:=a (i-1) u;show(fn tb i u-fn tb (i-1) u).natAbs<=_;(first|lia|omega)
 ·have:=a i u;(first|lia|omega)
end
section
variable{N n m t e k w r:Nat}{A:Nat->Tb.Vc}{T U Bn V Bf:Ξ}{QU QV:Nat->Nat}
def LS.rho(L:LS N n m t e A k w r T U Bn V Bf QU QV){i:Nat}(hi:i<k):Tb.glue w (fn ((Ah k).map (colAt T))) (fn U) i=Tb.glue w (fun i u=>fn T u i) (fn U) i:=Dd (fun u hu=>eH hi u) rfl
def LS.tl(L:LS N n m t e A k w r T U Bn V Bf QU QV){j:Nat}(a:j<=k):Tb.tl j (Tb.glue w (fn ((Ah k).map (colAt T))) (fn U))=Tb.tl j (Tb.glue w (fun i u=>fn T u i) (fn U)):=Tb.iH fun i hi=>L.rho ω
def LS.tri(G:Good N n m)(L:LS N n m t e A k w r T U Bn V Bf QU QV):Tb.Tri k r w (2 ^ (e+be N n m)) (2 ^ e) (Tb.glue w (fun i u=>fn T u i) (fn U)) (fun a=>w+QU a):=by
 have h:=hO G;exact L.li.near_tri (by rw[Nat.pow_add];exact Ae _) (Tb.pw ω)
def LS.tT(L:LS N n m t e A k w r T U Bn V Bf QU QV):t<=Tm N n m:=by have:=L.tm;(first|lia|omega)
def LS.eT(L:LS N n m t e A k w r T U Bn V Bf QU QV):e<=n*Tm N n m:=Ag L.te (Ak _ L.tT)
def LS.side(G:Good N n m)(L:LS N n m t e A k w r T U Bn V Bf QU QV):Side N (2 ^ (e+be N n m)) (2 ^ ((e+1)*N)) (2 ^ be N n m) (2 ^ (k0 N n m+kp N n m*t)) w k ((Ah k).map (colAt T)) U Bn:=by
 have h:=hO G;have T1:=L.tri G;have l:=G.N40;have tT:=L.tT;have eT:=L.eT;obtain⟨o,d,v⟩:=L.eu;obtain⟨x,g,y⟩:=L.eb;refine⟨zT,L.lU,L.lB,jx L.lT,L.wU,L.wB,by have:=L.kN;(first|lia|omega),by have:=L.wN;(first|lia|omega),L.kN,G.N1,ω,fun j b=>?_,fun i hi P f F p hp=>?_,fun i hi u=>?_,AT,AT,AT,Nat.pow_lt_pow_right ξ (by have:=G.piv;(first|lia|omega)),?_,?_⟩
 ·rw[L.tl b]
  refine(Tb.IM T1 (B:=2 ^ be N n m) (N:=N) (fun a c=>?_) (fun q hq=>?_) L.kN b).mono (Ae _) Tb.jw (Ae _)
  ·show(Tb.glue w (fun i u=>fn T u i) (fn U) (r+a) (w+QU a)).natAbs<=_
   rw[Tb.eX];exact L.li.ku.km a c
  ·rw[Tb.E9 L.li hq]
   exact Ag (L.li.pd q hq) (Tb.pw ω)
 ·rw[L.tl ω] at F
  rw[L.rho hi];exact T1.row hi F p hp
 ·rw[L.rho hi]
  refine De (fun u hu=>Ag (L.li.small (u:=u) (i:=i) hu hi) (Tb.pw ?_)) (fun s=>Ag (d i s) (Tb.pw ω)) u;unfold k0;(first|lia|omega)
 ·refine G.cE ⟨_,rfl,ω⟩ rfl rfl rfl (t:=t) ω ω ?_ (Ae _)
  have:(e+1)*N<=(n*Tm N n m+1)*N:=Al _ ω;(first|lia|omega)
 ·exact G.ent (t:=t) g ω ω
def LS.near(G:Good N n m)(L:LS N n m t e A k w r T U Bn V Bf QU QV)(hd:¬Tb.Dg r (fn T)){P:List Nat}{fr:Nat->List Int}{f U' c:Ξ}(D:Done N (2 ^ (e+be N n m)) (2 ^ ((e+1)*N)) (2 ^ be N n m) w k ((Ah k).map (colAt T)) U Bn P fr f U' c):LH N n m t 0 A k w r T f U' c V Bf (fun i=>vF fr (Tb.pls r w QU i)) (fun i s=>vF fr (Tb.pls r w QU i) (w+s)) QU QV:=by
 have d:=L.tri G;have F:=D.fs;rw[L.tl (Ae _)] at F;obtain⟨j,J,_,_⟩:=L.li.near_done d F;have a:∀i,i<k->Tb.pp P i=Tb.pls r w QU i:=fun i hi=>by
  unfold Tb.pp;rw[j,Ab,Aj,AQ hi];rfl
 have b:=D.f3;rw[L.tl (Ae _)] at b;rw[<-b] at J;have h:=hO G;have hk:2*n+be N n m+N<=kp N n m:=by unfold kp;rw[Nat.add_mul];(first|lia|omega)
 obtain⟨q,l,v⟩:=L.eu;obtain⟨x,o,y⟩:=L.eb;refine⟨L.kN,L.wN,D.l1,D.l2,D.l3,L.lV,L.lC,D.w1,D.w2,D.w3,L.wV,L.wC,J,fun i u hi hu=>by rw[D.f1 i u hi hu,a i hi],fun i hi=>by rw[D.f2 i hi,a i hi],fun g p=>Tb.Oj L.li hd d F g p,AB _,L.tm,⟨_,(D.e2 l).mono (Tb.zv G.Nn (Tb.zv (Tb.lh G.Nn) (Ae _))),?_⟩,⟨_,(D.e3 o).mono (Tb.zv G.Nn (Tb.zv (Tb.zv (Ae _) (Ae _)) (Ae _))),?_⟩,L.ev,L.ec⟩
 ·rw[jz,Nat.add_mul,Nat.mul_comm e N];(first|lia|omega)
 ·rw[jz];(first|lia|omega)
def LS.slSml(G:Good N n m)(L:LS N n m t e A k w r T U Bn V Bf QU QV):∀j,j<r->Sml (slT ((Ah k).map (colAt T)) r j)/\Sml (slT U r j)/\Sml (slB Bn r j):=fun j f=>by
 have h:=hO G;have rk:=L.li.rk;have q:=L.kN;have d:=G.N40;have tT:=L.tT;have rn:r<=2 ^ n:=Ag ω G.Nn;obtain⟨g,a,l⟩:=L.eu;obtain⟨o,b,p⟩:=L.eb;have hk:n+1<=kp N n m:=by unfold kp;(first|lia|omega)
 have c:be N n m<=k0 N n m:=by unfold k0;(first|lia|omega)
 have eT:Ent ((Ah k).map (colAt T)) (2 ^ be N n m):=oC zT fun i hi u=>by
  rw[eH hi]
  by_cases hu:u<w
  ·exact Ag (L.li.small hu hi) (Tb.pw ω)
  ·unfold fn
   rw[uT (by rw[L.lT];(first|lia|omega))];exact AB _
 have e1:=FP (n:=j) (r:=r) (by rw[zT];exact rk) (jx (n:=k) L.lT) ω eT;have e2:=FP (n:=j) (r:=r) (by rw[L.lU];exact rk) L.wU ω a;have e3:=JJ (n:=j) (r:=r) (by rw[L.lB];exact rk) L.wB ω b;refine⟨fun x hx=>⟨?_,G.ent (t:=t+1) (e1.mono (Tb.zv rn (Ae _))) ω (by rw[jz];(first|lia|omega)) x hx⟩,fun x hx=>⟨?_,G.ent (t:=t+1) (e2.mono (Tb.zv rn (Ae _))) ω (by rw[jz];(first|lia|omega)) x hx⟩,fun x hx=>⟨?_,G.ent (t:=t+1) (e3.mono (Tb.zv (show 2<=2 ^ 1 from ξ) (Ae _))) ω (by rw[jz];(first|lia|omega)) x hx⟩⟩
 ·rw[oG (by rw[zT];exact rk) (jx (n:=k) L.lT) j ω x hx];have:=L.wN;(first|lia|omega)
 ·rw[oG (by rw[L.lU];exact rk) L.wU j ω x hx];(first|lia|omega)
 ·rw[Dh (by rw[L.lB];exact rk) L.wB j ω x hx];(first|lia|omega)
def LS.slid(G:Good N n m)(L:LS N n m t e A k w r T U Bn V Bf QU QV)(hr:1<=r)(hd:Tb.Dg r (fn T))(hn:¬∀i,i+1<r->fn T i i ∣ fn T (i+1) (i+1)):LH N n m t (e+n) A k w r T (slT ((Ah k).map (colAt T)) r (r-1)) (slT U r (r-1)) (slB Bn r (r-1)) V Bf (fun i u=>Tb.aP k w A (Tb.b4 (fn U) r (r-1) i) (fn V u)) (Tb.b4 (fn U) r (r-1)) QU QV:=by
 have rk:=L.li.rk;have s:=L.li.rw;obtain⟨J,val⟩:=L.li.slid hr hd;have rn:r<=2 ^ n:=Ag rk (Ag L.kN G.Nn);have J:=J.mono (g':=2 ^ (e+n)) (by rw[Nat.pow_add,Nat.mul_comm];exact Ak _ rn);obtain⟨l,f,o⟩:=L.eu;obtain⟨p,g,q⟩:=L.eb;have hk:n+N*n+N<=kp N n m/\n+1<=kp N n m:=by unfold kp;rw[Nat.add_mul,Nat.mul_comm n N];(first|lia|omega)
 have e1:fn (slT U r (r-1))=Tb.b4 (fn U) r (r-1):=Di (by rw[L.lU];exact rk) L.wU (r-1) ω;have e2:fn (slB Bn r (r-1))=Tb.gh (fn Bn) r (r-1):=FO (by rw[L.lB];exact rk) L.wB (r-1) ω;rw[<-e2] at J;refine⟨L.kN,L.wN,by rw[lg];exact zT,by rw[lg];exact L.lU,by rw[t4];exact L.lB,L.lV,L.lC,oG (by rw[zT];exact rk) (jx (n:=k) L.lT) _ ω,oG (by rw[L.lU];exact rk) L.wU _ ω,Dh (by rw[L.lB];exact rk) L.wB _ ω,L.wV,L.wC,J,fun i u hi hu=>?_,fun i hi=>by rw[e1],fun a h=>Tb.Ol L.li hr hd hn a h,?_,L.tm,⟨_,(FP (n:=r-1) (by rw[L.lU];exact rk) L.wU ω f).mono (Tb.zv rn (Ae _)),?_⟩,⟨_,(JJ (n:=r-1) (by rw[L.lB];exact rk) L.wB ω g).mono (Tb.zv (show 2<=2 ^ 1 from ξ) (Ae _)),?_⟩,L.ev,L.ec⟩
 ·have e3:fn (slT ((Ah k).map (colAt T)) r (r-1))=Tb.b4 (fn ((Ah k).map (colAt T))) r (r-1):=Di (by rw[zT];exact rk) (jx (n:=k) L.lT) (r-1) ω
  rw[e3,val i u hi hu,Tb.ji hr];have zero:∀j,j<k->j≠u->fn T u j=0:=fun j b ne=>by
   by_cases c:u<r/\j<r
   ·exact hd u j c.1 c.2 (Ne.symm ne)
   ·exact L.li.to u j hu b ω
  by_cases c:i<r
  ·rw[if_pos c,Tb.JE,Tb.Fh (u:=u) (r-i) i fun j h1 h2 d=>by rw[eH (show j<k from ω)];exact zero j ω d]
   by_cases c2:i<=u/\u<r
   ·rw[if_pos ω,if_pos c2,eH ω]
   ·rw[if_neg ω,if_neg c2]
  ·rw[if_neg c,if_neg ω,eH hi]
   exact L.li.to u i hu hi (.inr ω)
 ·rw[Nat.mul_add,Nat.mul_one];have:=L.te;(first|lia|omega)
 ·rw[jz,Nat.mul_add];(first|lia|omega)
 ·rw[jz];(first|lia|omega)
end
end K22
end
section
namespace Tb
def JK{w j:Nat}{A:Nat->Vc}:i' (tl j (glue w A un)):=fun c hc hz=>by
 have D:Both j ((tl j (glue w A un)).map fun r=>fun t=>r (w+t)) (tl j un):=by rw[xy];exact Fj j
 exact D.free hc fun t _=>hz _
def JL{N n m:Nat}(a:N<=2 ^ n):sX N (2 ^ m)<=2 ^ ((1+n+m)*N):=by
 unfold sX;rw[Nat.pow_mul];refine Nat.pow_le_pow_left (zv (zv (show 2<=2 ^ 1 from ξ) a) (Ae _)) _
def Pa{N n m:Nat}(a:N<=2 ^ n):sB N (2 ^ m)<=2 ^ (n+((1+n+m)*N+m)):=zv a (zv (JL a) (Ae _))
def FQ{i t:Nat}:(un i t).natAbs<=1:=by unfold un dl;split<;>decide
end Tb
namespace K22
open PySem L2
def vu{n:Nat}:Ent (unT n) (2 ^ 0):=oC Dc fun i hi u=>by rw[oD hi];exact Tb.FQ
section
variable{N n m k w:Nat}{tb:Ξ}
def Dl{q j i:Nat}{S:Ξ}(hi:i<j):Tb.glue q (fn S) (fn (unT j)) i=Tb.glue q (fn S) Tb.un i:=Dd (fun _ _=>rfl) (oD hi)
def j'(G:Good N n m){mu x b:Nat}(z:mu<=m2 N n m)(hx:(1+n+mu)*N<=x)(v:x<=x2 N n m)(hb:n+(x+mu)<=b)(d:b<=ga N n m)(g:k<=N)(y:w<=N)(l:tb.length=k)(hw:∀r∈tb,r.length=w)(o:Ent tb (2 ^ mu)):Side N (2 ^ mu) (2 ^ x) (2 ^ b) (2 ^ mu) w k tb (unT k) (unT k):=by
 have h:=hO G;have q:=G.N40;have le:∀i,i<k->∀u,(Tb.glue w (fn tb) (fn (unT k)) i u).natAbs<=2 ^ mu:=fun i hi u=>by
  rw[Dl hi];exact De (fun u _=>o i u) (fun s=>Ag Tb.FQ AT) u
 have e:∀{j},j<=k->Tb.tl j (Tb.glue w (fn tb) (fn (unT k)))=Tb.tl j (Tb.glue w (fn tb) Tb.un):=fun{j} a=>Tb.iH fun i hi=>Dl ω;have c:m2 N n m<=k0 N n m:=by unfold k0;(first|lia|omega)
 refine⟨l,Dc,Dc,hw,lF,lF,ω,ω,g,G.N1,ω,fun j a=>?_,fun i hi P f F p hp=>le i hi p,le,AT,AT,AT,Nat.pow_lt_pow_right ξ (by have:=G.piv;(first|lia|omega)),?_,?_⟩
 ·rw[e a]
  refine(Tb.NZ G.N1 AT Tb.JK (by rw[Tb.iF];(first|lia|omega)) fun r hr u=>?_).mono (Ae _) (Ag (Tb.JL G.Nn) (Tb.pw hx)) (Ag (Tb.Pa G.Nn) (Tb.pw ω));obtain⟨i,hi,rfl⟩:=List.mem_map.mp hr;have hi:=List.mem_range.mp hi;rw[<-Dl (show i<k from ω)];exact le i ω u
 ·exact G.cE ⟨_,rfl,d⟩ rfl rfl rfl (t:=0) ω ω ω ω
 ·exact G.ent (t:=0) (vu) ω ω
def JM(G:Good N n m):m<=m2 N n m/\(1+n+m)*N<=x1 N n m/\x1 N n m<=x2 N n m/\n+(x1 N n m+m)<=be N n m/\be N n m<=ga N n m/\(1+n+m2 N n m)*N<=x2 N n m/\n+(x2 N n m+m2 N n m)<=ga N n m:=by
 have h:=hO G;have h1:x1 N n m<=dd N n m:=Al _ ω;have h2:x1 N n m=(1+n+m)*N:=rfl;have a:x2 N n m=(1+n+m2 N n m)*N:=rfl;have b:ga N n m=n+x2 N n m+m2 N n m:=rfl;have c:be N n m=n+m+dd N n m:=rfl;have d:m2 N n m=2*n+be N n m+x1 N n m+m:=rfl;(first|lia|omega)
def vv(G:Good N n m)(a:k<=N)(b:w<=N)(l:tb.length=k)(hw:∀r∈tb,r.length=w)(c:Ent tb (2 ^ m)):Side N (2 ^ m) (2 ^ x1 N n m) (2 ^ be N n m) (2 ^ m) w k tb (unT k) (unT k):=by
 have h:=JM G;exact j' G h.1 h.2.1 h.2.2.1 h.2.2.2.1 h.2.2.2.2.1 a b l hw c
variable{P P2:List Nat}{fr gU:Nat->List Int}{S U Bn T V Bf:Ξ}
def Pb(G:Good N n m)(l:tb.length=k)(hw:∀r∈tb,r.length=w)(a:Ent tb (2 ^ m))(b:k<=N)(D:Done N (2 ^ m) (2 ^ x1 N n m) (2 ^ be N n m) w k tb (unT k) (unT k) P fr S U Bn):Ent ((Ah w).map (colAt S)) (2 ^ m2 N n m):=by
 refine oC zT fun u hu i=>?_;rw[eH hu]
 by_cases hi:i<k
 ·rw[D.f1 i u hi hu]
  have:=(D.fs.fr (Tb.pp P i) (Tb.oy D.lP hi)).le (u:=u) (M:=2 ^ m) fun r hr=>by
   obtain⟨j,c,rfl⟩:=List.mem_map.mp hr;rw[Tb.zQ hu];exact a j u
  refine Ag this ?_;rw[Tb.iF];refine Ag (Al _ b) (Ag (Tb.zv G.Nn (Tb.zv (Tb.lh G.Nn) (Ae _))) (Tb.pw ?_));unfold m2;(first|lia|omega)
 ·unfold fn
  rw[uT (by rw[D.l1];(first|lia|omega))];exact AB _
def vC(G:Good N n m)(l:tb.length=k)(hw:∀r∈tb,r.length=w)(b:Ent tb (2 ^ m))(a:k<=N)(c:w<=N)(D:Done N (2 ^ m) (2 ^ x1 N n m) (2 ^ be N n m) w k tb (unT k) (unT k) P fr S U Bn):Side N (2 ^ m2 N n m) (2 ^ x2 N n m) (2 ^ ga N n m) (2 ^ m2 N n m) k w ((Ah w).map (colAt S)) (unT w) (unT w):=by
 have h:=JM G;exact j' G (Ae _) h.2.2.2.2.2.1 (Ae _) h.2.2.2.2.2.2 (Ae _) c a zT (jx D.l1) (Pb G l hw b a D)
def Pc(G:Good N n m)(l:tb.length=k)(hw:∀r∈tb,r.length=w)(g:Ent tb (2 ^ m))(a:k<=N)(h:w<=N)(D:Done N (2 ^ m) (2 ^ x1 N n m) (2 ^ be N n m) w k tb (unT k) (unT k) P fr S U Bn)(D2:Done N (2 ^ m2 N n m) (2 ^ x2 N n m) (2 ^ ga N n m) k w ((Ah w).map (colAt S)) (unT w) (unT w) P2 gU T V Bf):∃r QU QV,LS N n m 0 0 (fn tb) k w r T U Bn V Bf QU QV:=by
 have hb:=hO G;have e1:Tb.tl k (Tb.glue w (fn tb) (fn (unT k)))=Tb.tl k (Tb.glue w (fn tb) Tb.un):=Tb.iH fun i hi=>Dl hi;have F:=D.fs;rw[e1] at F;have I:=Tb.Of F;have e:=Tb.Og AT Tb.JK (fun r hr u=>?_) F
 ·have e2:Tb.tl w (Tb.glue k (fn ((Ah w).map (colAt S))) (fn (unT w)))=Tb.tl w (Tb.glue k (fun u i=>vF fr (Tb.pp P i) u) Tb.un):=Tb.iH fun u hu=>Dd (fun i hi=>by rw[eH hu];exact D.f1 i u hi hu) (oD hu)
  have d:=D2.fs;rw[e2] at d;have f:(2*(k*2 ^ m)+1) ^ k<=2 ^ dd N n m:=by
   unfold dd;rw[Nat.pow_mul];have h1:2*(k*2 ^ m)+1<=2 ^ (2+n+m):=by
    have a1:k*2 ^ m<=2 ^ (n+m):=Tb.zv (Ag a G.Nn) (Ae _);have a2:2 ^ (2+n+m)=4*2 ^ (n+m):=by rw[Nat.add_assoc,Nat.pow_add]
    have a3:=AT (n:=n+m);(first|lia|omega)
   exact Ag (Nat.pow_le_pow_left h1 _) (AA AT a)
  obtain⟨j,pr,J⟩:=Tb.Oh I (D:=2 ^ dd N n m) (fun q hq=>Ag (e q hq) f) d;have b:=D.f3;rw[e1,Tb.iH (W:=fn (unT k)) (W':=Tb.un) fun i hi=>oD hi] at b;have c:=D2.f3;rw[e2,Tb.iH (W:=fn (unT w)) (W':=Tb.un) fun i hi=>oD hi] at c;rw[<-b,<-c] at J;have o:k0 N n m=2*n+ga N n m+x2 N n m+m2 N n m+N+m:=rfl;have rk:=J.rk;have J2:=J.cg (T':=fn T) (U':=fn U) (V':=fn V) (fun u i hu hi=>(D2.f1 u i hu hi).symm) (fun i hi=>(D.f2 i hi).symm) fun u hu=>(D2.f2 u hu).symm;refine⟨_,_,_,a,h,D2.l1,D.l2,D.l3,D2.l2,D2.l3,D2.w1,D.w2,D.w3,D2.w2,D2.w3,J2,AB _,?_,⟨_,(D.e2 vu).mono (Tb.zv G.Nn (Tb.zv (Tb.lh G.Nn) (Ae _))),?_⟩,⟨_,(D.e3 vu).mono (Tb.zv G.Nn (Tb.zv (Tb.zv (Ae _) (Ae _)) (Ae _))),?_⟩,(D2.e2 vu).mono (Ag (Tb.zv G.Nn (Tb.zv (Tb.lh G.Nn) (Ae _))) (Tb.pw ?_)),(D2.e3 vu).mono (Ag (Tb.zv G.Nn (Tb.zv (Tb.zv (Ae _) (Ae _)) (Ae _))) (Tb.pw ?_))⟩
  ·have h1:=Tb.IZ (T:=fn T) (D:=2 ^ dd N n m) (Tb.cut w P) J2.tp J2.pd
   rw[Nat.log2_two_pow] at h1;have h2:Tb.cut w P*dd N n m<=N*dd N n m:=Al _ ω;unfold Tb.ms Tm;split<;>(first|lia|omega)
  ·(first|lia|omega)
  ·(first|lia|omega)
  ·(first|lia|omega)
  ·(first|lia|omega)
 ·obtain⟨i,hi,rfl⟩:=List.mem_map.mp hr
  exact De (fun u _=>g i u) (fun s=>Ag Tb.FQ AT) u
end
end K22
end
section
namespace K22
open PySem L2
def Pd{tb:Ξ}:tb.zipIdx=(Ah tb.length).map fun i=>(rowAt tb i,i):=by
 apply AX
 ·simp
 ·intro i h1 h2
  rw[List.length_zipIdx] at h1;rw[AW,AZ,List.getElem_zipIdx,zI (Ac h1)];simp
def JN{a:Type}{p:Nat->List Int->Bool}{g:Nat->List Int->a}{tb:Ξ}:jq p g tb.zipIdx=((Ah tb.length).filter fun i=>p i (rowAt tb i)).map fun i=>g i (rowAt tb i):=by
 unfold jq;rw[Pd,List.filter_map,AV]
 rfl
def JO{l:List Int}{k u:Nat}(hu:u≠k):vc (bM l k l.length) u=0:=by
 unfold bM;split
 ·unfold vc
  rw[Ab,List.getElem?_set,if_neg (Ne.symm hu),List.getElem?_replicate];split<;>rfl
 ·exact Jz
def JP{l:List Int}{k w:Nat}:(bM l k w).length=w:=by unfold bM;split<;>simp
def JQ{a b:List Int}(h:a.length=b.length)(c:∀u,u<a.length->vc a u=vc b u):a=b:=by
 apply AX h;intro i h1 h2;have:=c i h1
 rwa [lw h1,lw h2] at this
def JR{l:List Int}{k:Nat}:l=bM l k l.length↔∀u,u≠k->vc l u=0:=by
 constructor
 ·intro h u hu
  rw[h];exact JO (l:=l) hu
 ·intro h
  refine JQ JP.symm fun u hu=>?_
  by_cases c:u=k
  ·subst c
   unfold bM;rw[if_pos hu];unfold vc;rw[Ab,Ab,List.getElem?_set,if_pos rfl,List.length_replicate,if_pos hu]
   rfl
  ·rw[h u c,JO c]
def Pe{tb:Ξ}:c3 tb=true↔∀i,i<tb.length->∀u,u≠i->fn tb i u=0:=by
 unfold c3;rw[JN,List.all_map,AY];constructor
 ·intro h i hi u hu
  have:=h i (List.mem_filter.mpr ⟨List.mem_range.mpr hi,rfl⟩);have this:decide (rowAt tb i=bM (rowAt tb i) i (rowAt tb i).length)=true:=this;exact JR.mp (of_decide_eq_true this) u hu
 ·intro h i hi
  have hi:=List.mem_range.mp (List.mem_filter.mp hi).1;exact decide_eq_true (JR.mpr (h i hi))
def Pf{r w:Nat}(h:r<=w):(Ah w).filter (fun i=>decide (i<r))=Ah r:=by
 have e:Ah w=Ah r++(Ah (w-r)).map (r+·):=by rw[<-List.range_add];congr 1;(first|lia|omega)
 rw[e,List.filter_append];have h1:(Ah r).filter (fun i=>decide (i<r))=Ah r:=List.filter_eq_self.mpr fun i hi=>decide_eq_true (List.mem_range.mp hi);have h2:((Ah (w-r)).map (r+·)).filter (fun i=>decide (i<r))=[]:=List.filter_eq_nil_iff.mpr fun i hi=>by
  obtain⟨j,_,rfl⟩:=List.mem_map.mp hi;simp
 rw[h1,h2,List.append_nil]
def dg(r:Nat)(T:Ξ):List Int:=(Ah r).map fun i=>fn T i i
def FR{r u:Nat}{g:Nat->Int}(h:u<r):vc ((Ah r).map g) u=g u:=by
 unfold vc;rw[Ab,Aj,AQ h];rfl
section
variable{N n m t e k w r:Nat}{A:Nat->Tb.Vc}{T U Bn V Bf:Ξ}{QU QV:Nat->Nat}
def LS.onSl(L:LS N n m t e A k w r T U Bn V Bf QU QV):c3 T=true↔Tb.Dg r (fn T):=by
 have rk:=L.li.rk;have a:=L.li.rw;rw[Pe,L.lT];constructor
 ·intro h u i hu hi ne
  exact h u ω i (Ne.symm ne)
 ·intro h u hu i ne
  by_cases c:i<k
  ·by_cases c2:u<r/\i<r
   ·exact h u i c2.1 c2.2 (Ne.symm ne)
   ·exact L.li.to u i hu c ω
  ·unfold fn
   exact f_ (by rw[L.wT _ (zB (by rw[L.lT];exact hu))];(first|lia|omega))
def LS.slOf(L:LS N n m t e A k w r T U Bn V Bf QU QV):ci T=dg r T:=by
 have rk:=L.li.rk;have a:=L.li.rw;unfold K22.ci;rw[JN,L.lT];have e:(Ah w).filter (fun i=>decide (i<(rowAt T i).length)&&decide (vc (rowAt T i) i≠0))=(Ah w).filter fun i=>decide (i<r):=List.filter_congr fun i hi=>by
  have hi:=List.mem_range.mp hi;have b:(rowAt T i).length=k:=L.wT _ (zB (by rw[L.lT];exact hi));rw[b,Bool.eq_iff_iff,AU,decide_eq_true_eq,decide_eq_true_eq,decide_eq_true_eq];constructor
  ·rintro⟨h1,h2⟩
   refine AM fun c=>h2 ?_;exact L.li.to i i hi h1 ω
  ·intro h
   exact⟨ω,by have:0<vc (rowAt T i) i:=L.li.tp i h;(first|lia|omega)⟩
 rw[e,Pf a]
 rfl
def LS.inSt(L:LS N n m t e A k w r T U Bn V Bf QU QV):cD T=true↔Tb.Dg r (fn T)/\∀i,i+1<r->fn T i i ∣ fn T (i+1) (i+1):=by
 have c:=L.li.rw;unfold K22.cD;rw[AU,L.onSl,L.slOf,L.lT];refine and_congr_right fun _=>?_;unfold eB;have ld:(dg r T).length=r:=by unfold dg;simp
 have h1:(!decide ((w:Int)<((dg r T).length:Int)))=true:=by rw[ld];simp;(first|lia|omega)
 have h2:(dg r T).all (fun x=>decide (0<x))=true:=by
  rw[AY];intro x hx;obtain⟨i,hi,rfl⟩:=List.mem_map.mp hx;exact decide_eq_true (L.li.tp i (List.mem_range.mp hi))
 rw[h1,h2,Bool.true_and,Bool.true_and,AY];constructor
 ·intro h i hi
  have g:(AH (fun a b=>decide (b%a=0)) (dg r T) ((dg r T).drop 1))[i]?=some (decide (fn T (i+1) (i+1)%fn T i i=0)):=by
   rw[List.getElem?_zipWith,List.getElem?_drop];unfold dg;rw[Aj,Aj,AQ ω,AQ ω,Nat.add_comm 1 i]
   rfl
  have:=h _ (Am g);exact Int.dvd_of_emod_eq_zero (of_decide_eq_true this)
 ·intro h x hx
  obtain⟨i,hi,rfl⟩:=Bg hx;rw[AF,List.length_drop,ld] at hi;rw[A7,List.getElem_drop];unfold dg;rw[AW,AW,AZ,AZ];have:=h i ω;rw[Nat.add_comm 1 i];exact decide_eq_true (Int.emod_eq_zero_of_dvd this)
end
structure Pap(k w:Nat)(A:Nat->Tb.Vc)(u ub v vb:Ξ)(st:List Int):Prop where
 lu:u.length=k
 lub:ub.length=k
 lv:v.length=w
 lvb:vb.length=w
 wu:∀r∈u,r.length=k
 wub:∀r∈ub,r.length=k
 wv:∀r∈v,r.length=w
 wvb:∀r∈vb,r.length=w
 mu:∀r∈u,∀x∈r,x.natAbs+1000<low
 mub:∀r∈ub,∀x∈r,x.natAbs+1000<low
 mv:∀r∈v,∀x∈r,x.natAbs+1000<low
 mvb:∀r∈vb,∀x∈r,x.natAbs+1000<low
 u1:∀i j,i<k->j<k->Tb.dot k (fn u i) (fun s=>fn ub s j)=Tb.dl i j
 u2:∀i j,i<k->j<k->Tb.dot k (fn ub i) (fun s=>fn u s j)=Tb.dl i j
 v1:∀i j,i<w->j<w->Tb.dot w (fn v i) (fun s=>fn vb s j)=Tb.dl i j
 v2:∀i j,i<w->j<w->Tb.dot w (fn vb i) (fun s=>fn v s j)=Tb.dl i j
 sk:st.length<=k
 sw:st.length<=w
 sp:∀x∈st,0<x
 sd:∀i,i+1<st.length->vc st i ∣ vc st (i+1)
 s9:∀x∈st,x.natAbs<2 ^ 9000
 sb:∀x∈st,x.natAbs<big
 pr:∀i j,i<k->j<w->Tb.aP k w A (fn u i) (fun s=>fn v s j)=if i=j/\i<st.length then vc st i else 0
def Pap.sub{k w:Nat}{A:Nat->Tb.Vc}{u ub v vb:Ξ}{st:List Int}(p:Pap k w A u ub v vb st):∀r∈ub,∀x∈r,x.natAbs<low:=fun r hr x hx=>Ax (Bb _ _) (p.mub r hr x hx)
def Pap.sv{k w:Nat}{A:Nat->Tb.Vc}{u ub v vb:Ξ}{st:List Int}(p:Pap k w A u ub v vb st):∀r∈v,∀x∈r,x.natAbs<low:=fun r hr x hx=>Ax (Bb _ _) (p.mv r hr x hx)
def FT{ρ:Nat->Tb.Vc}{c:Nat->Int}{u:Nat}:∀k,Tb.sm ρ c k u=Tb.dot k c (fun a=>ρ a u)
 |0=>rfl
 |k+1=>by show Tb.sm ρ c k u+c k*ρ k u=Tb.dot k c _+c k*ρ k u;rw[FT k]
def FU{a b:Tb.Vc}:∀k,Tb.dot k a b=Tb.dot k b a
 |0=>rfl
 |k+1=>by show Tb.dot k a b+a k*b k=Tb.dot k b a+b k*a k;rw[FU k,Bj]
def FV{i j:Nat}:Tb.dl i j=Tb.dl j i:=by
 unfold Tb.dl
 by_cases c:i=j
 ·rw[if_pos c,if_pos c.symm]
 ·rw[if_neg c,if_neg (Ne.symm c)]
def JS{T:Ξ}{K q:Nat}(h:Ent T K):Ent ((Ah q).map (colAt T)) K:=oC zT fun i hi u=>by rw[eH hi];exact h u i
section
variable{N n m t e k w r:Nat}{A:Nat->Tb.Vc}{T U Bn V Bf:Ξ}{QU QV:Nat->Nat}
def LS.pap(G:Good N n m)(L:LS N n m t e A k w r T U Bn V Bf QU QV)(h:K22.cD T=true):Pap k w A U ((Ah k).map (colAt Bn)) ((Ah w).map (colAt V)) Bf (K22.ci T):=by
 obtain⟨hd,d⟩:=L.inSt.mp h;have tT:=L.tT;have rk:=L.li.rk;have D:=L.li.rw;obtain⟨v,f,y⟩:=L.eu;obtain⟨z,g,C⟩:=L.eb;obtain⟨l,p2⟩:=Tb.C2.mp L.li.bu;obtain⟨o,p⟩:=Tb.C2.mp L.li.bv;have ld:(dg r T).length=r:=by unfold dg;simp
 rw[L.slOf];refine⟨L.lU,zT,zT,L.lC,L.wU,jx L.lB,jx L.lV,L.wC,G.entM (t:=t) f ω ω,G.entM (t:=t) (JS g) ω ω,G.entM (t:=t) (JS L.ev) ω ω,G.entM (t:=t) L.ec ω ω,fun i j hi a=>?_,fun i j hi a=>?_,fun i j hi a=>?_,fun i j hi a=>?_,ω,ω,fun x hx=>?_,fun i hi=>?_,fun x hx=>?_,fun x hx=>?_,fun i j hi a=>?_⟩
 ·rw[<-p2 i j hi a]
  exact Tb.zn fun s b=>eH b j
 ·have:=l i j hi a
  rw[FT] at this;rw[<-this];exact Tb.zE fun s _=>eH hi s
 ·have:=o j i a hi
  rw[FT,FU,FV] at this;rw[<-this];exact Tb.zE fun s _=>eH hi s
 ·rw[FV,<-p j i a hi,FU]
  exact Tb.zE fun s b=>eH b j
 ·obtain⟨i,hi,rfl⟩:=List.mem_map.mp hx
  exact L.li.tp i (List.mem_range.mp hi)
 ·rw[ld] at hi
  have:=d i hi;unfold dg;rw[FR ω,FR hi];exact this
 ·obtain⟨i,hi,rfl⟩:=List.mem_map.mp hx
  have hi:=List.mem_range.mp hi;have h1:=L.li.small (u:=i) (i:=i) ω ω;have h2:=hO G;have E:=G.piv;exact Ax h1 (Nat.pow_lt_pow_right ξ ω)
 ·obtain⟨i,hi,rfl⟩:=List.mem_map.mp hx
  have hi:=List.mem_range.mp hi;have h1:=L.li.small (u:=i) (i:=i) ω ω;have H:=G.lim;have h2:=hO G;have F:k0 N n m=2*n+ga N n m+x2 N n m+m2 N n m+N+m:=rfl;exact JB h1 ω
 ·rw[ld]
  have e1:Tb.aP k w A (fn U i) (fun s=>fn ((Ah w).map (colAt V)) s j)=Tb.aP k w A (fn U i) (fn V j):=by
   unfold Tb.aP;exact Tb.zn fun s _=>Tb.zn fun q hq=>eH hq j
  rw[e1,<-L.li.bl j i a hi]
  by_cases c:i=j/\i<r
  ·rw[if_pos c,<-c.1]
   unfold dg;rw[FR c.2]
  ·rw[if_neg c]
   by_cases c2:j<r/\i<r
   ·exact hd j i c2.1 c2.2 ω
   ·exact L.li.to j i a hi ω
end
end K22
end
section
namespace K22
open PySem L2
abbrev Dm:Stmt:=top 27
def Dj(x y:List Addr):Prop:=∀a∈x,∀b∈y,a≠b
def NT.there{H H':Hp}{a:Addr}{ds:List Addr}{tb:Ξ}(h:NT H H' a ds tb):∀z∈a::ds,H' z≠none:=fun z hz=>by
 rcases List.mem_cons.mp hz with rfl|hz
 ·rw[h.at_];simp
 ·exact h.rows.there z hz
def NT.new{H H':Hp}{a:Addr}{ds:List Addr}{tb:Ξ}(h:NT H H' a ds tb):∀z∈a::ds,H z=none:=fun z hz=>by
 rcases List.mem_cons.mp hz with rfl|hz
 ·exact h.na
 ·exact(h.nw z hz).1
def hV{x y:List Addr}{H:Hp}(h1:∀z∈x,H z≠none)(h2:∀z∈y,H z=none):Dj x y:=fun a c b hb e=>h1 a c (e▸h2 b hb)
def JT{tb:Ξ}{k:Nat}(l:tb.length=k)(hw:∀r∈tb,r.length=k)(hk:k<=40):cy tb=true/\turn tb=(Ah k).map (colAt tb)/\wid tb=k:=by
 have e:wid tb=k:=by
  cases c:tb with
  |nil=>rw[c] at l;exact l
  |cons x r=>exact hw x (by rw[c];exact At ..)
 refine⟨?_,by unfold turn;rw[e],e⟩;unfold cy;rw[e,l,decide_eq_true hk];simp only[Bool.and_self,Bool.true_and,AY];exact fun r hr=>decide_eq_true (hw r hr)
structure PapH(H H':Hp)(p:Addr)(u ub v vb:Ξ)(st:List Int)(a1 a2 a3 a4 a5:Addr)(d1 d2 d3 d4:List Addr):Prop where
 at_:H' p=some (.tup [.ref a1,.ref a2,.ref a3,.ref a4,.ref a5])
 n1:NT H H' a1 d1 u
 n2:NT H H' a2 d2 ub
 n3:NT H H' a3 d3 v
 n4:NT H H' a4 d4 vb
 n5:H' a5=some (.lst (st.map V.int))
 na:H a5=none
 j12:Dj (a1::d1) (a2::d2)
 j13:Dj (a1::d1) (a3::d3)
 j14:Dj (a1::d1) (a4::d4)
 j15:Dj (a1::d1) [a5]
 j23:Dj (a2::d2) (a3::d3)
 j24:Dj (a4::d4) (a2::d2)
 j25:Dj (a2::d2) [a5]
 j34:Dj (a4::d4) (a3::d3)
 j35:Dj (a3::d3) [a5]
 j45:Dj (a4::d4) [a5]
structure lH(N n m k w:Nat)(tb:Ξ):Prop where
 good:Good N n m
 l:tb.length=k
 wd:∀r∈tb,r.length=w
 ent:Ent tb (2 ^ m)
 kN:k<=N
 wN:w<=N
def JU(H:Hp)(Q:VK)(k w:Nat)(A:Nat->Tb.Vc):Prop:=∀H' p u ub v vb st a1 a2 a3 a4 a5 d1 d2 d3 d4,Same H H'->PapH H H' p u ub v vb st a1 a2 a3 a4 a5 d1 d2 d3 d4->Pap k w A u ub v vb st->Q (.ref p) H'
section
variable{P:Program}{w:World}{K:Af}{mg:Str->Option Value}{base:Heap}
def JV:Sp:=fun vs H Q _=>∃(L:Addr)(rs:List Addr)(tb:Ξ)(N n m k w:Nat),vs=[.ref L,.int w]/\H L=some (.lst (rs.map V.ref))/\Rws H rs tb/\lH N n m k w tb/\JU H Q k w (fn tb)
def lJ:zm ["table","width","size","near","far"] ["table","width"] (ze Dm):=⟨rfl,rfl,rfl,δ,rfl,δ,δ⟩
def Pg{f fs fu fc fk fi fo fp fl:Addr}{fd aD l7 bD gT ka gv cL bP:FuncData}(F:Fun K "paper_of" "paper_of" Dm f fd)(bl:mg "len"=none)(Fs:Fun K "straightened" "straightened" dz fs aD)(bs:Binds K aD ["side","width"] [])(ms:mg "straightened"=some (.ref fs))(Gs:ar P w K mg base aK 5 fs aD ["side","width"] Jn)(Fu:Fun K "unit" "unit" C6 fu l7)(bu:Binds K l7 ["size"] [])(mu:mg "unit"=some (.ref fu))(Gu:ar P w K mg base aK 3 fu l7 ["size"] Jj)(Fc:Fun K "columns_to" "columns_to" nO fc bD)(bc:Binds K bD ["table","width"] [])(mc:mg "columns_to"=some (.ref fc))(Gc:ar P w K mg base aK 2 fc bD ["table","width"] (EH K))(Fk:Fun K "columns_of" "columns_of" ry fk gT)(bk:Binds K gT ["table"] [])(mk:mg "columns_of"=some (.ref fk))(Gk:ar P w K mg base aK 3 fk gT ["table"] (EI K))(Fi:Fun K "is_in_steps" "is_in_steps" C9 fi ka)(bi:Binds K ka ["table"] [])(mi:mg "is_in_steps"=some (.ref fi))(Gi:ar P w K mg base aK 3 fi ka ["table"] Jt)(Fo:Fun K "is_on_slope" "is_on_slope" uA fo gv)(bo:Binds K gv ["table"] [])(mo:mg "is_on_slope"=some (.ref fo))(Go:ar P w K mg base aK 2 fo gv ["table"] FJ)(Fp:Fun K "slope_of" "slope_of" uJ fp cL)(bp:Binds K cL ["table"] [])(mp:mg "slope_of"=some (.ref fp))(Gp:ar P w K mg base aK 1 fp cL ["table"] FK)(Fl:Fun K "slid" "slid" C8 fl bP)(bd:Binds K bP ["side","count"] [])(ml:mg "slid"=some (.ref fl))(Gl:ar P w K mg base aK 2 fl bP ["side","count"] Jo):ar P w K mg base aK 6 f fd ["table","width"] JV:=by
 refine F.ok lJ (fun vs H Q E h=>?_) (fun ai A outer s H vs Q E hr h=>?_)
 ·obtain⟨L,rs,tb,N,n,m,k,d,rfl,_⟩:=h;rfl
 ·obtain⟨L,rs,tb,N,n,m,k,d,rfl,hL,hT,ok,kk⟩:=h
  have M:Room 3 _:=hr.mono ξ;have eA:Room 2 _:=hr.mono ξ;have hr1:Room 1 _:=hr.mono ξ;refine⟨_,zb (zj (i:=2) lJ.nd rfl (Or.inl rfl) (zi zo rfl bl de (af (pv 0) ah)))
   (zb (zj (i:=3) lJ.nd rfl (Or.inl rfl) (zf Gs hr rfl ms Fs.kp bs .nil ak (af (il (af (pv 0) (af (zf Gu M rfl mu Fu.kp bu .nil ak (af (pv 2) ah)) (af (zf Gu M rfl mu Fu.kp bu .nil ak (af (pv 2) ah)) ah)))) (af (pv 1) ah))))
   (zb (zj (i:=4) lJ.nd rfl (Or.inl rfl) (zf Gs hr rfl ms Fs.kp bs .nil ak (af (il (af (zf Gc eA rfl mc Fc.kp bc .nil ak (af (zu zD (pv 3) zd (fun _ _=>rfl)) (af (pv 1) ah))) (af (zf Gu M rfl mu Fu.kp bu .nil ak (af (pv 1) ah)) (af (zf Gu M rfl mu Fu.kp bu .nil ak (af (pv 1) ah)) ah)))) (af (pv 2) ah))))
   (zb (pQ A0 (jJ (iQ (zf Gi M rfl mi Fi.kp bi .nil ak (af (zu zD (pv 4) zd (fun _ _=>rfl)) ah))))
    (zb (zj (i:=3) lJ.nd rfl (Or.inl rfl) (il (af (zf Gc eA rfl mc Fc.kp bc .nil ak (af (zu zD (pv 4) zd (fun _ _=>rfl)) (af (pv 2) ah))) (af (zu zD (pv 3) zd (fun _ _=>rfl)) (af (zu zD (pv 3) zd (fun _ _=>rfl)) ah)))))
    (zb (zj (i:=3) lJ.nd rfl (Or.inl rfl) (xn (iQ (zf Go eA rfl mo Fo.kp bo .nil ak (af (zu zD (pv 4) zd (fun _ _=>rfl)) ah)))
     (zf Gl eA rfl ml Fl.kp bd .nil ak (af (pv 3) (af (zi zo rfl bl de (af (zf Gp hr1 rfl mp Fp.kp bp .nil ak (af (zu zD (pv 4) zd (fun _ _=>rfl)) ah)) ah)) ah)))
     (zf Gs hr rfl ms Fs.kp bs .nil ak (af (pv 3) (af (pv 1) ah)))))
    (zg (zj (i:=4) lJ.nd rfl (Or.inl rfl) (zf Gs hr rfl ms Fs.kp bs .nil ak (af (il (af (zf Gc eA rfl mc Fc.kp bc .nil ak (af (zu zD (pv 3) zd (fun _ _=>rfl)) (af (pv 1) ah))) (af (zu zD (pv 4) zd (fun _ _=>rfl)) (af (zu zD (pv 4) zd (fun _ _=>rfl)) ah)))) (af (pv 2) ah))))))))
   (zg (zq (il (af (zu zD (pv 3) zd (fun _ _=>rfl)) (af (zf Gk M rfl mk Fk.kp bk .nil ak (af (zu zD (pv 3) zd (fun _ _=>rfl)) ah)) (af (zf Gk M rfl mk Fk.kp bk .nil ak (af (zu zD (pv 4) zd (fun _ _=>rfl)) ah)) (af (zu zD (pv 4) zd (fun _ _=>rfl)) (af (zf Gp hr1 rfl mp Fp.kp bp .nil ak (af (zu zD (pv 4) zd (fun _ _=>rfl)) ah)) ah))))))))))),?_⟩
  have aZ:=hT.len;have G:=ok.good;have N40:=G.N40;have kN:=ok.kN;have wN:=ok.wN;refine⟨_,rfl,L,_,rfl,.inl (SqL.of hL),?_⟩;rw[Aa,aZ,ok.l];refine⟨_,rfl,_,rfl,k,rfl,ω,fun u1 H1 uw s1 y7 nJ xl BW yZ=>⟨_,rfl,k,rfl,ω,fun u2 H2 t_ s2 y9 lZ yi BN BX=>⟨by show 3<=sizeLine;decide,fun t1 lO=>⟨_,rfl,?_⟩⟩⟩⟩;have sq:=Same.new (o:=.tup [V.ref L,V.ref u1,V.ref u2]) lO;have S1:=vv G ok.kN ok.wN ok.l ok.wd ok.ent;refine⟨t1,L,u1,u2,rs,uw,t_,tb,unT k,unT k,_,_,_,_,_,d,k,rfl,za,((s1.trans s2).trans sq) _ _ hL,(s2.trans sq) _ _ nJ,sq _ _ lZ,hT.same ((s1.trans s2).trans sq),xl.same (s2.trans sq),yi.same sq,S1.ok,fun P1 jC tn an v I wD W eZ H3 F1 W1 s3 X iL b y=>?_⟩;have D1:=S1.done F1 W1;have dL:=((s1.trans s2).trans sq).trans s3;have iL:=iL.old ((s1.trans s2).trans sq);have b:=b.old ((s1.trans s2).trans sq);have y:=y.old ((s1.trans s2).trans sq);generalize (P1.map fun p=>(jC p).take d)=S at D1 iL;generalize (P1.map fun p=>(jC p).drop d)=U at D1 b;generalize iG k ((cat tb (unT k)).map fun r=>shrL jC r P1) (unT k)=Bn at D1 y;refine⟨_,rfl,tn,_,_,_,rfl,rfl,SqT.of X,zh (j:=0) rfl,_,rfl,an,wD,S,d,rfl,SqL.of iL.at_,iL.rows,by rw[D1.l1];(first|lia|omega),ω,fun r hr=>Nat.le_of_eq (D1.w1 r hr).symm,fun c1 H4 iS s4 qC gF ny qS om=>?_⟩;refine⟨_,rfl,d,rfl,ω,fun u3 H5 yk s5 Cv lL sF Bz Cj=>⟨_,rfl,d,rfl,ω,fun u4 H6 rh s6 nh kS vV CA BK=>⟨by show 3<=sizeLine;decide,fun t2 mL=>⟨_,rfl,?_⟩⟩⟩⟩;have sq2:=Same.new (o:=.tup [V.ref c1,V.ref u3,V.ref u4]) mL;have S2:=vC G ok.l ok.wd ok.ent ok.kN ok.wN D1;have ii:=((s4.trans s5).trans s6).trans sq2;refine⟨t2,c1,u3,u4,iS,yk,rh,_,unT d,unT d,_,_,_,_,_,k,d,rfl,za,((s5.trans s6).trans sq2) _ _ gF,(s6.trans sq2) _ _ lL,sq2 _ _ kS,ny.same ((s5.trans s6).trans sq2),sF.same (s6.trans sq2),vV.same sq2,S2.ok,fun P2 gU D O Z J dO fC dW H7 F2 W2 s7 u c C g=>?_⟩;have D2:=S2.done F2 W2;obtain⟨r,QU,QV,LL⟩:=Pc G ok.l ok.wd ok.ent ok.kN ok.wN D1 D2;have je:=ii.trans s7;have fZ:=dL.trans je;have jj:Dj (v::W) (J::dW):=hV (b.same ii).there g.new;have c:=c.old (dL.trans ii);have C:=C.old (dL.trans ii);have g:=g.old (dL.trans ii);have b:=b.same je;have y:=y.same je;have X:=je _ _ X;generalize (P2.map fun p=>(gU p).take k)=T at D2 c LL;generalize (P2.map fun p=>(gU p).drop k)=V at D2 C LL;generalize iG d ((cat ((Ah d).map (colAt S)) (unT d)).map fun r=>shrL gU r P2) (unT d)=Bf at D2 g LL;refine⟨fun q σ H8=>∃(t e:Nat)(T U Bn V Bf:Ξ)(QU QV:Nat->Nat)(tn an v I D O Z J:Addr)(W eZ dO fC dW:List Addr),q=Tm N n m-t/\σ=[some (.ref L),some (.int d),some (.int k),some (.ref tn),some (.ref D)]/\Same H H8/\H8 tn=some (.tup [.ref an,.ref v,.ref I])/\H8 D=some (.tup [.ref O,.ref Z,.ref J])/\NT H H8 v W U/\NT H H8 I eZ Bn/\NT H H8 O dO T/\NT H H8 Z fC V/\NT H H8 J dW Bf/\Dj (v::W) (J::dW)/\LS N n m t e (fn tb) k d r T U Bn V Bf QU QV,
   ⟨_,0,0,T,U,Bn,V,Bf,QU,QV,tn,an,v,I,D,O,Z,J,W,eZ,dO,fC,dW,rfl,rfl,fZ,X,u,b,y,c,C,g,jj,LL⟩,?_⟩
  clear LL jj g C c D2 u fZ je S2 ii sq2 D1 S1 X y b;rintro q σ H8 ⟨t,e,T,U,Bn,V,Bf,QU,QV,tn,an,v,I,D,O,Z,J,W,eZ,dO,fC,dW,rfl,rfl,s8,X,u,b,y,c,C,g,jj,LL⟩;have iI:T.length<=1000:=by rw[LL.lT];(first|lia|omega)
  have wT9:∀x∈T,x.length<=1000:=fun x hx=>by rw[LL.wT x hx];(first|lia|omega)
  refine⟨_,rfl,D,_,_,_,rfl,rfl,SqT.of u,zh (j:=0) rfl,O,dO,T,rfl,c.at_,c.rows,iI,wT9,fun H9 a=>⟨_,rfl,?_⟩⟩;have X:=a _ _ X;have u:=a _ _ u;have b:=b.same a;have y:=y.same a;have c:=c.same a;have C:=C.same a;have g:=g.same a;have a:=s8.trans a;clear s8;cases eC:cD T with
  |true=>
   refine aR ?_;obtain⟨i1,i2,_⟩:=JT LL.lB LL.wB ω;obtain⟨j1,j2,_⟩:=JT LL.lV LL.wV ω;refine⟨_,rfl,tn,_,_,_,rfl,rfl,SqT.of X,zh (j:=1) rfl,_,rfl,tn,_,_,_,rfl,rfl,SqT.of X,zh (j:=2) rfl,I,eZ,Bn,rfl,SqL.of y.at_,y.rows,i1,fun a2 Ha d2 sa q8 mq oi ye vw=>?_⟩;rw[i2] at oi;refine⟨_,rfl,D,_,_,_,rfl,rfl,SqT.of (sa _ _ u),zh (j:=1) rfl,Z,fC,V,rfl,SqL.of (sa _ _ C.at_),C.rows.same sa,j1,fun a3 Hb d3 Y xr lE qk t8 vW=>?_⟩;rw[j2] at qk;have fF:=sa.trans Y;refine⟨_,rfl,D,_,_,_,rfl,rfl,SqT.of (fF _ _ u),zh (j:=2) rfl,_,rfl,D,_,_,_,rfl,rfl,SqT.of (fF _ _ u),zh (j:=0) rfl,O,dO,T,rfl,fF _ _ c.at_,c.rows.same fF,iI,fun a5 Hc sc ow nA=>⟨by show 5<=sizeLine;decide,fun p hp=>?_⟩⟩;have sp:=Same.new (o:=.tup [.ref v,.ref a2,.ref a3,.ref J,.ref a5]) hp;have n2:NT H9 Ha a2 d2 _:=⟨mq,oi,ye,q8,vw⟩;have n3:NT Ha Hb a3 d3 _:=⟨lE,qk,t8,xr,vW⟩;have kc:=fF.trans sc;have e5:∀z∈[a5],Hb z=none:=fun z hz=>by rw[List.mem_singleton.mp hz];exact ow
   refine kk _ p _ _ _ _ _ v a2 a3 J a5 W d2 d3 dW ((a.trans kc).trans sp) ⟨za,(b.same kc).same sp,((n2.same (Y.trans sc)).same sp).old a,((n3.same sc).same sp).old (a.trans sa),(g.same kc).same sp,sp _ _ nA,a.free (fF.free ow),hV b.there n2.new,hV (b.same sa).there n3.new,jj,hV (b.same fF).there e5,hV n2.there n3.new,hV g.there n2.new,hV (n2.same Y).there e5,hV (g.same sa).there n3.new,hV n3.there e5,hV (g.same fF).there e5⟩ (LL.pap G eC)
  |false=>
   refine aW ⟨fun ag H'=>∃q,q<Tm N n m-t/\∃(t e:Nat)(T U Bn V Bf:Ξ)(QU QV:Nat->Nat)(tn an v I D O Z J:Addr)(W eZ dO fC dW:List Addr),q=Tm N n m-t/\ag=[some (.ref L),some (.int d),some (.int k),some (.ref tn),some (.ref D)]/\Same H H'/\H' tn=some (.tup [.ref an,.ref v,.ref I])/\H' D=some (.tup [.ref O,.ref Z,.ref J])/\NT H H' v W U/\NT H H' I eZ Bn/\NT H H' O dO T/\NT H H' Z fC V/\NT H H' J dW Bf/\Dj (v::W) (J::dW)/\LS N n m t e (fn tb) k d r T U Bn V Bf QU QV,fun ag H' h=>h,?_⟩;refine⟨_,rfl,D,_,_,_,rfl,rfl,SqT.of u,zh (j:=0) rfl,_,rfl,O,dO,T,k,rfl,SqL.of c.at_,c.rows,iI,ω,fun x hx=>Nat.le_of_eq (LL.wT x hx).symm,fun c1 Ha iS sa qC gF ny qS om=>?_⟩;refine⟨_,rfl,tn,_,_,_,rfl,rfl,SqT.of (sa _ _ X),zh (j:=1) rfl,_,rfl,tn,_,_,_,rfl,rfl,SqT.of (sa _ _ X),zh (j:=2) rfl,by show 3<=sizeLine;decide,fun t1 lO=>?_⟩;have sq:=Same.new (o:=.tup [.ref c1,.ref v,.ref I]) lO;have dP:upd Ha t1 (.tup [.ref c1,.ref v,.ref I]) t1=some (.tup [.ref c1,.ref v,.ref I]):=za;have cu:NT H9 Ha c1 iS _:=⟨gF,ny,qS,qC,om⟩;have cu:=(cu.same sq).old a;have Y:=sa.trans sq;generalize upd Ha t1 (.tup [.ref c1,.ref v,.ref I])=Hb at dP cu Y ⊢;have u:=Y _ _ u;have b:=b.same Y;have y:=y.same Y;have c:=c.same Y;have C:=C.same Y;have g:=g.same Y;have a:=a.trans Y;refine⟨_,rfl,D,_,_,_,rfl,rfl,SqT.of u,zh (j:=0) rfl,O,dO,T,rfl,c.at_,c.rows,iI,wT9,fun Hd sd=>⟨_,rfl,?_⟩⟩;have u:=sd _ _ u;have dP:=sd _ _ dP;have cu:=cu.same sd;have b:=b.same sd;have y:=y.same sd;have c:=c.same sd;have C:=C.same sd;have g:=g.same sd;have a:=a.trans sd;have iT:¬(Tb.Dg r (fn T)/\∀i,i+1<r->fn T i i ∣ fn T (i+1) (i+1)):=fun h=>by have:=LL.inSt.mpr h;rw[eC] at this;cases this
   apply share (S:=fun fV He=>∃(e':Nat)(S' U' ge:Ξ)(S0 U0:Nat->Tb.Vc)(a' b' c':Addr)(dA dQ dR:List Addr),Same Hd He/\He fV=some (.tup [.ref a',.ref b',.ref c'])/\NT H He a' dA S'/\NT H He b' dQ U'/\NT H He c' dR ge/\LH N n m t e' (fn tb) k d r T S' U' ge V Bf S0 U0 QU QV)
   ·intro fin hc
    have hd:¬Tb.Dg r (fn T):=fun h=>hc (LL.onSl.mpr h);have S1:=LL.side G;refine⟨_,rfl,_,rfl,t1,c1,v,I,iS,W,eZ,_,U,Bn,_,_,_,_,_,d,k,rfl,dP,cu.at_,b.at_,y.at_,cu.rows,b.rows,y.rows,S1.ok,fun P1 jC fV a' b' c' dA dQ dR He F1 W1 se df g_ iA ja=>fin fV He ?_⟩;exact⟨0,_,_,_,_,_,a',b',c',dA,dQ,dR,se,df,g_.old a,iA.old a,ja.old a,LL.near G hd (S1.done F1 W1)⟩
   ·intro fin hc
    have hd:Tb.Dg r (fn T):=LL.onSl.mp hc;have hn:¬∀i,i+1<r->fn T i i ∣ fn T (i+1) (i+1):=fun h=>iT ⟨hd,h⟩;have hr1:1<=r:=by
     rcases Nat.eq_zero_or_pos r with z|z
     ·exact absurd (fun i hi=>ω) hn
     ·exact z
    refine⟨_,rfl,_,rfl,D,_,_,_,rfl,rfl,SqT.of u,zh (j:=0) rfl,O,dO,T,rfl,c.at_,c.rows,iI,fun D5 H5 s5 jt e5=>⟨D5,_,rfl,.inl (SqL.of e5),?_⟩⟩;have rf:(K22.ci T).length=r:=by rw[LL.slOf];unfold dg;simp
    rw[Aa,rf];refine⟨H,t1,c1,v,I,iS,W,eZ,_,U,Bn,k,r,rfl,s5 _ _ dP,a.trans s5,cu.same s5,b.same s5,y.same s5,zT,LL.lU,LL.lB,hr1,LL.li.rk,ω,LL.slSml G,fun fV a' b' c' dA dQ dR He se df g_ iA ja=>fin fV He ?_⟩;exact⟨_,_,_,_,_,_,a',b',c',dA,dQ,dR,s5.trans se,df,g_,iA,ja,LL.slid G hr1 hd hn⟩
   ·rintro fV He ⟨e',S',U',ge,S0,U0,a',b',c',dA,dQ,dR,se,df,g_,iA,ja,LH⟩
    have u:=se _ _ u;have C:=C.same se;have g:=g.same se;have a:=a.trans se;refine⟨_,rfl,fV,_,_,_,rfl,rfl,SqT.of df,zh (j:=0) rfl,_,rfl,a',dA,S',d,rfl,SqL.of g_.at_,g_.rows,by rw[LH.lS];(first|lia|omega),ω,fun x hx=>Nat.le_of_eq (LH.wS x hx).symm,fun c2 Hg wP sg Cu mU rE Cq CC=>?_⟩;refine⟨_,rfl,D,_,_,_,rfl,rfl,SqT.of (sg _ _ u),zh (j:=1) rfl,_,rfl,D,_,_,_,rfl,rfl,SqT.of (sg _ _ u),zh (j:=2) rfl,by show 3<=sizeLine;decide,fun t2 mL=>?_⟩;have sq2:=Same.new (o:=.tup [.ref c2,.ref Z,.ref J]) mL;have sh:=sg.trans sq2;have S2:=LH.side G;refine⟨_,rfl,t2,c2,Z,J,wP,fC,dW,_,V,Bf,_,_,_,_,_,k,d,rfl,za,sq2 _ _ mU,sh _ _ C.at_,sh _ _ g.at_,rE.same sq2,C.rows.same sh,g.rows.same sh,S2.ok,fun P2 gU uo wm xf yE kX kF kB Hi F2 W2 si l' nZ k6 jr=>?_⟩;have D2:=S2.done F2 W2;have L2:=LH.next G D2;have s0:=a.trans sh;have tm:=L2.tm;exact⟨_,ω,t+1,e',_,U',ge,_,_,QU,QV,fV,a',b',c',uo,wm,xf,yE,dQ,dR,kX,kF,kB,rfl,rfl,s0.trans si,(sh.trans si) _ _ df,l',iA.same (sh.trans si),ja.same (sh.trans si),nZ.old s0,k6.old s0,jr.old s0,hV (iA.same sh).there jr.new,L2⟩
end
end K22
end
section
namespace Tb
def Dn{k:Nat}{a b:Vc}{q:Int}(h:∀t,t<k->q ∣ b t):q ∣ dot k a b:=by
 induction k with
 |zero=>exact Int.dvd_zero _
 |succ k ih=>exact Int.dvd_add (ih fun t c=>h t ω) (Int.dvd_trans (h k ω) (Int.dvd_mul_left _ _))
def FW{k:Nat}{x c:Vc}{Z:Nat->Vc}{e:Vc}:∀n,dot n (fun j=>dot k x (fun l=>c l*Z l j)) e=dot k x (fun l=>c l*dot n (Z l) e)
 |0=>by
  show(0:Int)=dot k x (fun l=>c l*0);have:∀k,dot k x (fun l=>c l*0)=0:=fun k=>by
   induction k with
   |zero=>rfl
   |succ k ih=>show dot k x _+x k*(c k*0)=0;rw[ih];simp
  rw[this]
 |n+1=>by
  show dot n _ e+dot k x (fun l=>c l*Z l n)*e n=dot k x (fun l=>c l*(dot n (Z l) e+Z l n*e n));rw[FW n,Bj _ (e n),Int.add_comm,<-tI];exact zn fun l _=>by
   show e n*(c l*Z l n)+c l*dot n (Z l) e=c l*(dot n (Z l) e+Z l n*e n);rw[Int.mul_add,Bj (e n),AR,Int.add_comm]
def JW{n i:Nat}{s:Int}{e:Vc}(hi:i<n):dot n (fun j=>if i=j then s else 0) e=s*e i:=by
 have:∀m,m<=n->dot m (fun j=>if i=j then s else 0) e=if i<m then s*e i else 0:=by
  intro m
  induction m with
  |zero=>intro _;rw[if_neg ω];rfl
  |succ m ih=>
   intro a;show dot m _ e+(if i=m then s else 0)*e m=_;rw[ih ω]
   by_cases c:i=m
   ·subst c;rw[if_neg ω,if_pos rfl,if_pos ω];(first|lia|omega)
   ·rw[if_neg c]
    by_cases c2:i<m
    ·rw[if_pos c2,if_pos ω];(first|lia|omega)
    ·rw[if_neg c2,if_neg ω];(first|lia|omega)
 rw[this n (Ae _),if_pos hi]
def Ph{n:Nat}{z a b:Vc}:dot n z (fun j=>a j-b j)=dot n z a-dot n z b:=by
 have:=tI (k:=n) (a:=z) (b:=b) (b':=a) (x:=-1);rw[show dot n z a-dot n z b=-1*dot n z b+dot n z a from ω,<-this];exact zn fun t _=>ω
def bq(q:Nat)(s:Int):Nat:=q / Nat.gcd s.natAbs q
def Do{q:Nat}{s:Int}:Nat.gcd s.natAbs q*bq q s=q:=Nat.mul_div_cancel' (Nat.gcd_dvd_right _ _)
def Dp{q:Nat}{s:Int}(hq:1<=q):1<=bq q s:=by
 rcases Nat.eq_zero_or_pos (bq q s) with z|z
 ·have:=Do (q:=q) (s:=s);rw[z] at this;(first|lia|omega)
 ·exact z
def Pi{q:Nat}{s:Int}(hq:1<=q)(h:¬(q:Int) ∣ s):2<=bq q s:=by
 have h1:=Dp (s:=s) hq;rcases Bh (bq q s) 2 with c|c
 ·have e:=Do (q:=q) (s:=s)
  rw[show bq q s=1 from ω,Nat.mul_one] at e;refine absurd ?_ h;have:=Nat.gcd_dvd_left s.natAbs q;rw[e] at this;exact Int.ofNat_dvd_left.mpr this
 ·exact c
def Pj{q:Nat}{s y:Int}(h:(bq q s:Int) ∣ y):(q:Int) ∣ s*y:=by
 obtain⟨f,rfl⟩:=h;obtain⟨i,j⟩:=Nat.gcd_dvd_left s.natAbs q;have e:=Do (q:=q) (s:=s);have hd:((Nat.gcd s.natAbs q:Nat):Int) ∣ s:=Int.ofNat_dvd_left.mpr (Nat.gcd_dvd_left _ _);obtain⟨c,d⟩:=hd;refine⟨c*f,?_⟩;have a:(q:Int)=(Nat.gcd s.natAbs q:Nat)*(bq q s:Nat):=by rw[<-Int.natCast_mul,e]
 clear j i e;generalize ((Nat.gcd s.natAbs q:Nat):Int)=g at d a;generalize ((bq q s:Nat):Int)=b at a ⊢;rw[a,d,AR,AR,Int.mul_left_comm c]
def Pk{q:Nat}{s e:Int}(hq:1<=q)(h:(q:Int) ∣ s*e):(bq q s:Int) ∣ e:=by
 have h1:q ∣ s.natAbs*e.natAbs:=by rw[<-AD];exact Int.ofNat_dvd_left.mp h
 have a:0<Nat.gcd s.natAbs q:=Nat.gcd_pos_of_pos_right _ hq;have b:Nat.Coprime (bq q s) (s.natAbs / Nat.gcd s.natAbs q):=(Nat.coprime_div_gcd_div_gcd a).symm;have es:s.natAbs=Nat.gcd s.natAbs q*(s.natAbs / Nat.gcd s.natAbs q):=(Nat.mul_div_cancel' (Nat.gcd_dvd_left _ _)).symm;have h2:Nat.gcd s.natAbs q*bq q s ∣ Nat.gcd s.natAbs q*((s.natAbs / Nat.gcd s.natAbs q)*e.natAbs):=by
  rw[Do,<-AN,<-es];exact h1
 have c:bq q s ∣ (s.natAbs / Nat.gcd s.natAbs q)*e.natAbs:=Nat.dvd_of_mul_dvd_mul_left a h2;exact Int.ofNat_dvd_left.mpr (b.dvd_of_dvd_mul_left c)
def JX:∀{l:List Nat},(∀x∈l,1<=x)->1<=pr l
 |[],_=>Ae _
 |t::l,h=>Nat.mul_pos (h t (.head _)) (JX fun x hx=>h x (.tail _ hx))
def JY{k w i q:Nat}{s s':Nat->Int}{X Z:Nat->Vc}(E:∀a j,a<k->j<w->dot k (X a) (fun l=>s' l*Z l j)=if a=j then s a else 0)(hk:i<k)(hw:i<w)(hq:1<=q)(F:∀l,i<=l->l<k->(q:Int) ∣ s' l)(G:∀j,j<i->s j=s' j):(q:Int) ∣ s i:=by
 refine AM fun no=>?_;have A:=Pi hq no
 let g:List Int->List Int:=fun c=>(Ah i).map fun l=>dot (i+1) (Z l) (vl c)%(bq q (s l):Int)
 have big:(allb ((Ah i).map fun j=>bq q (s j))).length<(allb ((Ah (i+1)).map fun j=>bq q (s j))).length:=by
  rw[j8,j8,List.range_succ,Aq,tH];have:=JX (l:=(Ah i).map fun j=>bq q (s j)) fun x hx=>by
   obtain⟨j,_,rfl⟩:=List.mem_map.mp hx;exact Dp hq
  show _<_*(bq q (s i)*1);rw[Nat.mul_one];have h2:pr ((Ah i).map fun j=>bq q (s j))*2<=pr ((Ah i).map fun j=>bq q (s j))*bq q (s i):=Ak _ A;(first|lia|omega)
 obtain⟨c,hc,d,hd,ne,e⟩:=ez g _ _ (ol _) (fun c _=>jh.mpr ⟨by simp[g],fun l x t hx b=>by
  simp only[g,Aj] at hx b
  by_cases f:l<i
  ·rw[AQ f] at hx b
   simp at hx b;subst hx b;have:(0:Int)<(bq q (s l):Int):=by have:=Dp (s:=s l) hq;(first|lia|omega)
   exact⟨Int.emod_nonneg _ ω,Int.emod_lt_of_pos _ this⟩
  ·rw[List.getElem?_eq_none (by simpa using f)] at hx;cases hx⟩) big
 obtain⟨v,y⟩:=jh.mp hc;obtain⟨ld,bd⟩:=jh.mp hd;rw[Aa,A9] at v ld;have o:∀a,a<=i->(q:Int) ∣ s a*(vl c a-vl d a):=fun a H=>by
  have h1:dot (i+1) (fun j=>dot k (X a) (fun l=>s' l*Z l j)) (fun j=>vl c j-vl d j)=s a*(vl c a-vl d a):=by
   rw[<-JW (n:=i+1) (e:=fun j=>vl c j-vl d j) (show a<i+1 from ω)];exact zE fun j I=>E a j ω ω
  rw[<-h1,FW];refine Dn fun l f=>?_;rcases Bh l i with c1|c1
  ·rw[<-G l c1]
   refine Pj ?_;rw[Ph];have e2:dot (i+1) (Z l) (vl c)%(bq q (s l):Int)=dot (i+1) (Z l) (vl d)%(bq q (s l):Int):=by
    have:=congrArg (fun x:List Int=>x[l]?) e;simp only[g,Aj,AQ c1] at this;exact AS this
   exact Int.dvd_of_emod_eq_zero (by rw[Int.sub_emod,e2];simp)
  ·exact Int.dvd_trans (F l c1 f) (Int.dvd_mul_right _ _)
 refine ne (AX ω fun a h1 h2=>?_);have r:=Pk hq (o a ω);have C:vl c a=c[a]:=by unfold vl;rw[Ab,Ac h1];rfl
 have p:vl d a=d[a]:=by unfold vl;rw[Ab,Ac h2];rfl
 rw[C,p] at r;have u:((Ah (i+1)).map fun j=>bq q (s j))[a]?=some (bq q (s a)):=by rw[Aj,AQ ω];rfl
 have J:=y a _ _ (Ac h1) u;have L:=bd a _ _ (Ac h2) u;obtain⟨z,hz⟩:=r;have M:=Dp (s:=s a) hq;have D:z=0:=by
  rcases Int.lt_trichotomy z 0 with h|h|h
  ·have:(bq q (s a):Int)*z<=(bq q (s a):Int)*(-1):=Int.mul_le_mul_of_nonneg_left ω ω
   (first|lia|omega)
  ·exact h
  ·have:(bq q (s a):Int)*1<=(bq q (s a):Int)*z:=Int.mul_le_mul_of_nonneg_left ω ω
   (first|lia|omega)
 rw[D,Bi] at hz;(first|lia|omega)
def Pl{k w:Nat}{s s':Nat->Int}{X Z u v:Nat->Vc}(g:∀a j,a<k->j<w->dot k (X a) (fun l=>s' l*Z l j)=if a=j then s a else 0)(r:∀a j,a<k->j<w->dot k (u a) (fun l=>s l*v l j)=if a=j then s' a else 0)(f:∀i,0<=s i)(d:∀i,0<=s' i)(hd:∀i l,i<=l->l<k->s i ∣ s l)(e:∀i l,i<=l->l<k->s' i ∣ s' l):∀i,i<k->i<w->s i=s' i:=by
 intro i
 induction i using Nat.strongRecOn with
 |_ i ih=>
  intro hk hw;have go:∀{s s':Nat->Int}{X Z:Nat->Vc},(∀a j,a<k->j<w->dot k (X a) (fun l=>s' l*Z l j)=if a=j then s a else 0)->(∀i,0<=s i)->(∀i,0<=s' i)->(∀i l,i<=l->l<k->s' i ∣ s' l)->(∀j,j<i->s j=s' j)->s' i ∣ s i:=by
   intro s s' X Z g f d e o
   by_cases z:s' i=0
   ·have p:∀l,i<=l->l<k->s' l=0:=fun l h1 h2=>by
     have:=e i l h1 h2;rw[z] at this;exact Int.zero_dvd.mp this
    have hb:=f i;have:=JY (q:=(s i).toNat+1) g hk hw ω (fun l h1 h2=>by rw[p l h1 h2];exact Int.dvd_zero _) o;rw[z];refine Int.zero_dvd.mpr ?_;rcases Int.lt_or_le 0 (s i) with c|c
    ·have:=Int.le_of_dvd c this
     (first|lia|omega)
    ·(first|lia|omega)
   ·have hp:=d i
    have:=JY (q:=(s' i).toNat) g hk hw ω (fun l h1 h2=>by rw[Int.toNat_of_nonneg hp];exact e i l h1 h2) o
    rwa [Int.toNat_of_nonneg hp] at this
  have a:=go g f d e fun j h=>ih j h ω ω;have b:=go r d f hd fun j h=>(ih j h ω ω).symm;exact Int.dvd_antisymm (f i) (d i) b a
def oI{n k:Nat}{x y:Vc}{B:Nat->Vc}:dot n (fun l=>dot k x (fun s=>B s l)) y=dot k x (fun s=>dot n (B s) y):=by
 have:=FW (k:=k) (x:=x) (c:=fun _=>1) (Z:=B) (e:=y) n;have e1:dot n (fun j=>dot k x (fun l=>(1:Int)*B l j)) y=dot n (fun l=>dot k x (fun s=>B s l)) y:=zE fun t _=>zn fun s _=>Int.one_mul _;have e2:dot k x (fun l=>(1:Int)*dot n (B l) y)=dot k x (fun s=>dot n (B s) y):=zn fun s _=>Int.one_mul _;rw[<-e1,this,e2]
def eM{a b:Vc}:∀k,dot k a b=dot k b a
 |0=>rfl
 |k+1=>by show dot k a b+a k*b k=dot k b a+b k*a k;rw[eM k,Bj]
def Dq{k w n:Nat}{A U:Nat->Vc}{X y:Vc}:aP k w A (fun t=>dot n X (fun l=>U l t)) y=dot n X (fun l=>aP k w A (U l) y):=by
 unfold aP;exact oI
def Dr{k w n:Nat}{A V:Nat->Vc}{x Z:Vc}:aP k w A x (fun t=>dot n Z (fun l=>V l t))=dot n Z (fun l=>aP k w A x (V l)):=by
 unfold aP;have e:dot k x (fun s=>dot w (A s) (fun t=>dot n Z (fun l=>V l t)))=dot k x (fun s=>dot n (fun l=>dot w (A s) (V l)) Z):=zn fun s _=>by
  rw[eM w,oI,eM n];exact zE fun l _=>eM w
 rw[e,<-oI,eM n]
end Tb
end
section
namespace K22
open PySem L2
def JZ{n:Nat}{x:Tb.Vc}{B U:Nat->Tb.Vc}(h:∀i j,i<n->j<n->Tb.dot n (B i) (fun s=>U s j)=Tb.dl i j){t:Nat}(a:t<n):Tb.dot n (fun l=>Tb.dot n x (fun s=>B s l)) (fun l=>U l t)=x t:=by
 rw[Tb.oI,<-Tb.E1 (k:=n) (x:=x) a];exact Tb.zn fun s b=>h s t b a
def J0{k w:Nat}{A b:Nat->Tb.Vc}{x x' y a:Tb.Vc}(e:∀s t,s<k->t<w->A s t=b s t)(hx:∀t,t<k->x t=x' t)(hy:∀t,t<w->y t=a t):Tb.aP k w A x y=Tb.aP k w b x' a:=by
 unfold Tb.aP;rw[Tb.zE hx];exact Tb.zn fun s c=>by
  rw[Tb.zn hy];exact Tb.zE fun t d=>e s t c d
def Pap.zero{k w:Nat}{A:Nat->Tb.Vc}{u ub v vb:Ξ}{st:List Int}(p:Pap k w A u ub v vb st){i:Nat}(h:st.length<=i):vc st i=0:=f_ h
def Pap.pr'{k w:Nat}{A:Nat->Tb.Vc}{u ub v vb:Ξ}{st:List Int}(p:Pap k w A u ub v vb st){i j:Nat}(hi:i<k)(a:j<w):Tb.aP k w A (fn u i) (fun s=>fn v s j)=if i=j then vc st i else 0:=by
 rw[p.pr i j hi a]
 by_cases c:i=j
 ·by_cases c2:i<st.length
  ·rw[if_pos ⟨c,c2⟩,if_pos c]
  ·rw[if_neg (fun h=>c2 h.2),if_pos c,f_ ω]
 ·rw[if_neg (fun h=>c h.1),if_neg c]
def Pap.via{k w:Nat}{A b R C:Nat->Tb.Vc}{u ub v vb f o g d:Ξ}{st q:List Int}(p:Pap k w A u ub v vb st)(r:Pap k w b f o g d q)(h:∀s t,s<k->t<w->A s t=Tb.aP k w b (R s) (C t)):∃X Z:Nat->Tb.Vc,∀a j,a<k->j<w->Tb.dot k (X a) (fun l=>vc q l*Z l j)=if a=j then vc st a else 0:=by
 refine⟨fun a l=>Tb.dot k (fun t=>Tb.dot k (fn u a) (fun s=>R s t)) (fun s=>fn o s l),fun l j=>Tb.dot w (fun t=>Tb.dot w (fun s=>fn v s j) (fun s=>C s t)) (fun s=>fn d l s),fun a j D z=>?_⟩;rw[<-p.pr' D z];have e1:Tb.aP k w A (fn u a) (fun s=>fn v s j)=Tb.aP k w b (fun t=>Tb.dot k (fn u a) (fun s=>R s t)) (fun t=>Tb.dot w (fun s=>fn v s j) (fun s=>C s t)):=by
  rw[Tb.Dq];unfold Tb.aP;refine Tb.zn fun s E=>?_;have:=Tb.Dr (k:=k) (w:=w) (n:=w) (A:=b) (V:=C) (x:=R s) (Z:=fun s=>fn v s j);unfold Tb.aP at this;rw[this,Tb.eM w];exact Tb.zn fun t e=>h s t E e
 rw[e1];show Tb.dot k (fun l=>Tb.dot k (fun t=>Tb.dot k (fn u a) (fun s=>R s t)) (fun s=>fn o s l)) (fun l=>vc q l*Tb.dot w (fun t=>Tb.dot w (fun s=>fn v s j) (fun s=>C s t)) (fun s=>fn d l s))=_;generalize hx:(fun t=>Tb.dot k (fn u a) (fun s=>R s t))=x;generalize hy:(fun t=>Tb.dot w (fun s=>fn v s j) (fun s=>C s t))=y;have e2:Tb.aP k w b x y=Tb.aP k w b (fun t=>Tb.dot k (fun l=>Tb.dot k x (fun s=>fn o s l)) (fun l=>fn f l t)) y:=J0 (fun _ _ _ _=>rfl) (fun t e=>(JZ r.u2 e).symm) fun _ _=>rfl;rw[e2,Tb.Dq];refine Tb.zn fun l F=>?_;have e3:Tb.aP k w b (fn f l) y=Tb.aP k w b (fn f l) (fun t=>Tb.dot w (fun m=>Tb.dot w y (fun s=>fn d m s)) (fun m=>fn g t m)):=J0 (fun _ _ _ _=>rfl) (fun _ _=>rfl) fun t e=>by
  have:=JZ (n:=w) (x:=y) (B:=fun s m=>fn d m s) (U:=fun m t=>fn g t m) (fun i j hi z=>by
   rw[FV,<-r.v1 j i z hi,Tb.eM]) e
  exact this.symm
 rw[e3];have H:=Tb.Dr (k:=k) (w:=w) (n:=w) (A:=b) (V:=fun m t=>fn g t m) (x:=fn f l) (Z:=fun m=>Tb.dot w y (fun s=>fn d m s));rw[H];show _=Tb.dot w _ _;have I:Tb.dot w (fun m=>Tb.dot w y (fun s=>fn d m s)) (fun m=>Tb.aP k w b (fn f l) (fun t=>fn g t m))=Tb.dot w (fun m=>if l=m then vc q l else 0) (fun m=>Tb.dot w y (fun s=>fn d m s)):=by
  rw[Tb.eM w];exact Tb.zE fun m G=>r.pr' F G
 rw[I]
 by_cases c:l<w
 ·rw[Tb.JW c]
 ·rw[Tb.oj fun t e=>if_neg ω,f_ (by have:=r.sw;(first|lia|omega))]
  simp
def J1{st:List Int}(hd:∀i,i+1<st.length->vc st i ∣ vc st (i+1)):∀n i,vc st i ∣ vc st (i+n)
 |0,i=>Int.dvd_refl _
 |n+1,i=>by
  have a:=J1 hd n i
  by_cases c:i+n+1<st.length
  ·exact Int.dvd_trans a (hd (i+n) c)
  ·rw[f_ (show st.length<=i+(n+1) from ω)];exact Int.dvd_zero _
def Pap.steps{k w:Nat}{A f R C R' F:Nat->Tb.Vc}{u ub v vb y z D E:Ξ}{st d:List Int}(p:Pap k w A u ub v vb st)(e:Pap k w f y z D E d)(h:∀s t,s<k->t<w->A s t=Tb.aP k w f (R s) (C t))(h':∀s t,s<k->t<w->f s t=Tb.aP k w A (R' s) (F t)):st=d:=by
 obtain⟨X,Z,o⟩:=p.via e h;obtain⟨H,I,q⟩:=e.via p h';have g:∀{st:List Int},(∀x∈st,0<x)->∀i,0<=vc st i:=fun{st} h i=>by
  by_cases c:i<st.length
  ·rw[lw c];exact Int.le_of_lt (h _ (AI c))
  ·rw[f_ ω];exact Int.le_refl _
 have dv:∀{st:List Int},(∀i,i+1<st.length->vc st i ∣ vc st (i+1))->∀i l,i<=l->l<k->vc st i ∣ vc st l:=fun{st} h i l h1 _=>by
  have:=J1 h (l-i) i
  rwa [show i+(l-i)=l from ω] at this
 have eq:=Tb.Pl o q (g p.sp) (g e.sp) (dv p.sd) (dv e.sd);have one:∀{st d:List Int},(∀x∈st,0<x)->st.length<=k->st.length<=w->(∀i,i<k->i<w->vc st i=vc d i)->st.length<=d.length:=fun{st d} h1 h2 G j=>by
  rcases Bh d.length st.length with c|c
  ·have r:=j d.length ω ω
   rw[f_ (Ae _),lw c] at r;have:=h1 _ (AI c);(first|lia|omega)
  ·exact c
 have l1:=one p.sp p.sk p.sw eq;have l2:=one e.sp e.sk e.sw fun i a b=>(eq i a b).symm;exact JQ ω fun i hi=>eq i (by have:=p.sk;(first|lia|omega)) (by have:=p.sw;(first|lia|omega))
end K22
end
section
namespace L2
open PySem PySem.Spec PyProof.Rows
mutual
inductive DV(K:Af)(H:Hp):V->PyData->Prop where
 |bl (b:Bool):DV K H (.bl b) (.bool b)
 |int (i:Int):DV K H (.int i) (.int i)
 |str (z:Str):DV K H (.str z) (.str z)
 |lst {l:Addr} {xs:List V} {ds:List PyData} (h:SqL K H l xs) (t:DVs K H xs ds):DV K H (.ref l) (.list ds)
inductive DVs(K:Af)(H:Hp):List V->List PyData->Prop where
 |nil:DVs K H [] []
 |cons {x:V} {d:PyData} {xs:List V} {ds:List PyData} (h:DV K H x d) (t:DVs K H xs ds):DVs K H (x::xs) (d::ds)
end
section
variable{X:Cx}{aa:Ψ}{σ:St}{H:Hp}{s:Shared}
mutual
def DV.reads(I:Inv X aa σ H s):∀{x:V}{d:PyData}{u:Value},DV X.K H x d->RelV x u->∃a,Reads s.heap u d a
 |_,_,_,.bl b,r=>by cases r;exact⟨_,.bool b⟩
 |_,_,_,.int i,r=>by obtain⟨t,rfl⟩:=r;exact⟨_,.int i t⟩
 |_,_,_,.str z,r=>by obtain⟨t,rfl⟩:=r;exact⟨_,.str z t⟩
 |_,_,_,.lst h t,r=>by
  cases r;obtain⟨ad,c,p,_⟩:=I.list h;obtain⟨o,e,hc,n,hd⟩:=p.isList;obtain⟨a,q⟩:=DVs.reads I t c;exact⟨_,.list e hc hd (by simpa using q)⟩
def DVs.reads(I:Inv X aa σ H s):∀{xs:List V}{ds:List PyData}{us:List Value},DVs X.K H xs ds->Vals xs us->∃c,ReadsAll s.heap us ds c
 |_,_,_,.nil,.nil=>⟨_,.nil⟩
 |_,_,_,.cons h t,.cons r rs=>by
  obtain⟨a,q⟩:=DV.reads I h r;obtain⟨b,d⟩:=DVs.reads I t rs;exact⟨_,.cons q d⟩
end
end
def fO(neg:Bool)(K:Af):R2:=fun x y H Q=>∃d e,DV K H x d/\DV K H y e/\SeqAt.shaped d=true/\SeqAt.shaped e=true/\SeqAt.noMix d e=true/\Q (.bl (if neg then !same d e else same d e)) H
section
variable{X:Cx}
def FX(hu:X.A.units+64<cLine):cx X (compareOp .Eq) (fO false X.K):=by
 intro aa s σ H x y v u Q I a b h;obtain⟨d,e,h1,h2,c,f,nm,q⟩:=h;obtain⟨a1,g⟩:=h1.reads I a;obtain⟨a2,i⟩:=h2.reads I b;exact eq_dataH_same g i c f hu nm ⟨.bl _,H,I,rfl,q⟩
def FY(hu:X.A.units+64<cLine):cx X (compareOp .NotEq) (fO true X.K):=by
 intro aa s σ H x y v u Q I a b h;obtain⟨d,e,h1,h2,c,f,nm,q⟩:=h;obtain⟨a1,g⟩:=h1.reads I a;obtain⟨a2,i⟩:=h2.reads I b;exact ne_dataH_same g i c f hu nm ⟨.bl _,H,I,rfl,q⟩
end
abbrev dB(ns:List Int):PyData:=.list (ns.map PyData.int)
abbrev cF(tb:Ξ):PyData:=.list (tb.map dB)
abbrev iN(ts:List Ξ):PyData:=.list (ts.map cF)
def J3(ns ms:List Int):same (dB ns) (dB ms)=decide (ns=ms):=by simp only[same];exact PySem.W.ke_sameAll ns ms
def J4:∀a b:Ξ,sameAll (a.map dB) (b.map dB)=decide (a=b)
 |[],[]=>by simp[sameAll]
 |[],_::_=>by simp[sameAll]
 |_::_,[]=>by simp[sameAll]
 |a::r,b::t=>by
  simp only[A5,sameAll,J3];rw[J4 r t]
  by_cases h:a=b<;>by_cases h':r=t<;>simp[h,h']
def Ds(a b:Ξ):same (cF a) (cF b)=decide (a=b):=by simp only[same];exact J4 a b
def J5:∀a b:List Ξ,sameAll (a.map cF) (b.map cF)=decide (a=b)
 |[],[]=>by simp[sameAll]
 |[],_::_=>by simp[sameAll]
 |_::_,[]=>by simp[sameAll]
 |a::r,b::t=>by
  simp only[A5,sameAll,Ds];rw[J5 r t]
  by_cases h:a=b<;>by_cases h':r=t<;>simp[h,h']
def Pm(a b:List Ξ):same (iN a) (iN b)=decide (a=b):=by simp only[same];exact J5 a b
def J6(ns:List Int):PyData.canLayAll0 (ns.map PyData.int)=true:=by simp[PySem.W.ke_canLayAll0]
def FZ:∀tb:Ξ,PyData.canLayAll0 (tb.map dB)=true
 |[]=>rfl
 |a::r=>by rw[A5,PyData.canLayAll0,FZ r,dB,PyData.canLay0,J6];rfl
def J7:∀b:List Ξ,PyData.canLayAll0 (b.map cF)=true
 |[]=>rfl
 |a::r=>by rw[A5,PyData.canLayAll0,J7 r,cF,PyData.canLay0,FZ];rfl
def F_:∀tb:Ξ,PyData.depthAll (tb.map dB)<=2
 |[]=>AB _
 |a::r=>by
  have e:PyData.depth (dB a)<=2:=by simp[PyData.depth,PySem.W.ke_depthAll]
  rw[A5,PyData.depthAll];exact Nat.max_le.mpr ⟨e,F_ r⟩
def J8:∀b:List Ξ,PyData.depthAll (b.map cF)<=3
 |[]=>AB _
 |a::r=>by
  have e:PyData.depth (cF a)<=3:=by
   have:=F_ a;rw[cF,PyData.depth];(first|lia|omega)
  rw[A5,PyData.depthAll];exact Nat.max_le.mpr ⟨e,J8 r⟩
def oN(tb:Ξ):SeqAt.shaped (cF tb)=true:=by
 have:=F_ tb;have e:PyData.depth (cF tb)<=64:=by rw[cF,PyData.depth];(first|lia|omega)
 unfold SeqAt.shaped;rw[decide_eq_true e,cF,PyData.canLay0,FZ]
 rfl
def J9(a:List Ξ):SeqAt.shaped (iN a)=true:=by
 have:=J8 a;have e:PyData.depth (iN a)<=64:=by rw[iN,PyData.depth];(first|lia|omega)
 unfold SeqAt.shaped;rw[decide_eq_true e,iN,PyData.canLay0,J7]
 rfl
def Pn(a b:List Int):SeqAt.noMix (dB a) (dB b)=true:=SeqAt.noMix_of_shape (.list .int) rfl _ _ (by simp[Shape.has]) (by simp[Shape.has])
def F'(a b:Ξ):SeqAt.noMix (cF a) (cF b)=true:=SeqAt.noMix_of_shape (.list (.list .int)) rfl _ _ (by simp[Shape.has]) (by simp[Shape.has])
def Po(a b:List Ξ):SeqAt.noMix (iN a) (iN b)=true:=SeqAt.noMix_of_shape (.list (.list (.list .int))) rfl _ _ (by simp[Shape.has]) (by simp[Shape.has])
def J_{K:Af}{H:Hp}:∀ns:List Int,DVs K H (ns.map V.int) (ns.map PyData.int)
 |[]=>.nil
 |n::r=>.cons (.int n) (J_ r)
def Ga{K:Af}{H:Hp}{l:Addr}{ns:List Int}(h:SqL K H l (ns.map V.int)):DV K H (.ref l) (dB ns):=.lst h (J_ ns)
end L2
end
section
namespace K22
open PySem L2
abbrev Dt:Stmt:=top 19
abbrev oS:Stmt:=top 23
abbrev Dv:Stmt:=top 24
def J':A4 "min"=some (.builtin "min"):=δ
def Pp{K:Af}{H:Hp}{rs:List Addr}{tb:Ξ}(h:Rws H rs tb):DVs K H (rs.map V.ref) (tb.map dB):=by
 induction h with
 |nil=>exact .nil
 |cons r t ih=>exact .cons (Ga (SqL.of r)) ih
def kb{K:Af}{H:Hp}{L:Addr}{rs:List Addr}{tb:Ξ}(a:SqL K H L (rs.map V.ref))(h:Rws H rs tb):DV K H (.ref L) (cF tb):=.lst a (Pp h)
def Pq(tb:Ξ):Prop:=∀r∈tb,∀x∈r,x.natAbs<big
def Ps{tb:Ξ}:(turn tb).length=wid tb:=by unfold turn;simp
section
variable{P:Program}{w:World}{K:Af}{mg:Str->Option Value}{base:Heap}
def Gh(K:Af):Sp:=fun vs H Q _=>∃L rs tb,vs=[.ref L]/\SqL K H L (rs.map V.ref)/\Rws H rs tb/\cy tb=true/\∀H',Same H H'->Q .non H'
def Pt{f a:Addr}{fd b:FuncData}(F:Fun K "must_be_table" "must_be_table" rx f fd)(Ft:Fun K "is_table" "is_table" rv a b)(bt:Binds K b ["table"] [])(mt:mg "is_table"=some (.ref a))(i:ar P w K mg base aK 2 a b ["table"] (HR K)):ar P w K mg base aK 3 f fd ["table"] (Gh K):=by
 refine F.ok Nu (fun vs H Q E h=>?_) (fun j A outer s H vs Q E hr h=>?_)
 ·obtain⟨L,rs,tb,rfl,_⟩:=h;rfl
 ·obtain⟨L,rs,tb,rfl,e,g,c,k⟩:=h
  refine⟨_,zg (cT (jJ (iQ (zf i hr rfl mt Ft.kp bt .nil ak (af (pv 0) ah)))) GV zL),?_⟩;refine⟨_,rfl,L,rs,tb,rfl,e,g,by have:=(B' c).1;(first|lia|omega),fun H1 d=>⟨_,rfl,?_⟩⟩;rw[c];exact aR (k H1 d)
def Ka(K:Af):Sp:=fun vs H Q _=>∃(L:Addr)(rs:List Addr)(tb:Ξ)(N n m:Nat),vs=[.ref L]/\H L=some (.lst (rs.map V.ref))/\Rws H rs tb/\cy tb=true/\lH N n m tb.length (wid tb) tb/\JU H Q tb.length (wid tb) (fn tb)
def Pu:zm ["table"] ["table"] (ze Dt):=⟨rfl,rfl,rfl,δ,rfl,δ,δ⟩
def PapH.old{H0 H H':Hp}{p:Addr}{u ub v vb:Ξ}{st:List Int}{a1 a2 a3 a4 a5:Addr}{d1 d2 d3 d4:List Addr}(h:PapH H H' p u ub v vb st a1 a2 a3 a4 a5 d1 d2 d3 d4)(s:Same H0 H):PapH H0 H' p u ub v vb st a1 a2 a3 a4 a5 d1 d2 d3 d4:=
 ⟨h.at_,h.n1.old s,h.n2.old s,h.n3.old s,h.n4.old s,h.n5,s.free h.na,h.j12,h.j13,h.j14,h.j15,h.j23,h.j24,h.j25,h.j34,h.j35,h.j45⟩
def PapH.same{H H' H2:Hp}{p:Addr}{u ub v vb:Ξ}{st:List Int}{a1 a2 a3 a4 a5:Addr}{d1 d2 d3 d4:List Addr}(h:PapH H H' p u ub v vb st a1 a2 a3 a4 a5 d1 d2 d3 d4)(s:Same H' H2):PapH H H2 p u ub v vb st a1 a2 a3 a4 a5 d1 d2 d3 d4:=
 ⟨s _ _ h.at_,h.n1.same s,h.n2.same s,h.n3.same s,h.n4.same s,s _ _ h.n5,h.na,h.j12,h.j13,h.j14,h.j15,h.j23,h.j24,h.j25,h.j34,h.j35,h.j45⟩
def Pv{f g i j:Addr}{fd l o q:FuncData}(F:Fun K "stepped" "stepped" Dt f fd)(Fm:Fun K "must_be_table" "must_be_table" rx g l)(bm:Binds K l ["table"] [])(z:mg "must_be_table"=some (.ref g))(J:ar P w K mg base aK 3 g l ["table"] (Gh K))(Fp:Fun K "paper_of" "paper_of" Dm i o)(C:Binds K o ["table","width"] [])(D:mg "paper_of"=some (.ref i))(M:ar P w K mg base aK 6 i o ["table","width"] JV)(Fw:Fun K "width_of" "width_of" kT j q)(G:Binds K q ["table"] [])(I:mg "width_of"=some (.ref j))(O:ar P w K mg base aK 1 j q ["table"] (nK K)):ar P w K mg base aK 7 f fd ["table"] (Ka K):=by
 refine F.ok Pu (fun vs H Q E h=>?_) (fun S A outer s H vs Q E hr h=>?_)
 ·obtain⟨L,rs,tb,N,n,m,rfl,_⟩:=h;rfl
 ·obtain⟨L,rs,tb,N,n,m,rfl,b,c,it,ok,y⟩:=h
  have d:Room 3 _:=hr.mono ξ;have e:Room 1 _:=hr.mono ξ;refine⟨_,zb (mO (zf J d rfl z Fm.kp bm .nil ak (af (pv 0) ah))) (zg (zq (zf M hr rfl D Fp.kp C .nil ak (af (pv 0) (af (zf O e rfl I Fw.kp G .nil ak (af (pv 0) ah)) ah))))),?_⟩;refine⟨_,rfl,L,rs,tb,rfl,SqL.of b,c,it,fun H1 a=>⟨_,rfl,_,rfl,L,rs,tb,rfl,SqL.of (a _ _ b),c.same a,L,rs,tb,N,n,m,_,_,rfl,a _ _ b,c.same a,ok,?_⟩⟩;intro H' p u ub v vb st a1 a2 a3 a4 a5 d1 d2 d3 d4 r x pp;exact y H' p u ub v vb st a1 a2 a3 a4 a5 d1 d2 d3 d4 (a.trans r) (x.old a) pp
def Dx(K:Af):Sp:=fun vs H Q _=>∃(L:Addr)(rs:List Addr)(tb:Ξ)(N n m:Nat),vs=[.ref L]/\H L=some (.lst (rs.map V.ref))/\Rws H rs tb/\cy tb=true/\lH N n m tb.length (wid tb) tb/\
 ∀a H' u ub v vb st,Same H H'->H a=none->H' a=some (.lst (st.map V.int))->Pap tb.length (wid tb) (fn tb) u ub v vb st->Q (.ref a) H'
def Pw:zm ["table"] ["table"] (ze oS):=⟨rfl,rfl,rfl,δ,rfl,δ,δ⟩
def Px{f fs:Addr}{fd b:FuncData}(F:Fun K "steps_of" "steps_of" oS f fd)(Fs:Fun K "stepped" "stepped" Dt fs b)(bs:Binds K b ["table"] [])(ms:mg "stepped"=some (.ref fs))(i:ar P w K mg base aK 7 fs b ["table"] (Ka K)):ar P w K mg base aK 8 f fd ["table"] (Dx K):=by
 refine F.ok Pw (fun vs H Q E h=>?_) (fun l A outer s H vs Q E hr h=>?_)
 ·obtain⟨L,rs,tb,N,n,m,rfl,_⟩:=h;rfl
 ·obtain⟨L,rs,tb,N,n,m,rfl,d,e,it,ok,g⟩:=h
  refine⟨_,zg (zq (zu zD (zf i hr rfl ms Fs.kp bs .nil ak (af (pv 0) ah)) zd (fun _ _=>rfl))),?_⟩;refine⟨_,rfl,L,rs,tb,N,n,m,rfl,d,e,it,ok,?_⟩;intro H' p u ub v vb st a1 a2 a3 a4 a5 d1 d2 d3 d4 c a pp;exact⟨p,_,_,_,rfl,rfl,SqT.of a.at_,zh (j:=4) rfl,g a5 H' u ub v vb st c a.na a.n5 pp⟩
def Kb(K:Af):Sp:=fun vs H Q _=>∃(L:Addr)(rs:List Addr)(tb:Ξ)(N n m:Nat),vs=[.ref L]/\H L=some (.lst (rs.map V.ref))/\Rws H rs tb/\cy tb=true/\lH N n m tb.length (wid tb) tb/\
 ∀H' u ub v vb st,Same H H'->Pap tb.length (wid tb) (fn tb) u ub v vb st->Q (.int st.length) H'
def Py:zm ["table"] ["table"] (ze Dv):=⟨rfl,rfl,rfl,δ,rfl,δ,δ⟩
def Pz{f fs:Addr}{fd b:FuncData}(F:Fun K "rank" "rank" Dv f fd)(bl:mg "len"=none)(Fs:Fun K "steps_of" "steps_of" oS fs b)(bs:Binds K b ["table"] [])(ms:mg "steps_of"=some (.ref fs))(j:ar P w K mg base aK 8 fs b ["table"] (Dx K)):ar P w K mg base aK 9 f fd ["table"] (Kb K):=by
 refine F.ok Py (fun vs H Q E h=>?_) (fun l A outer s H vs Q E hr h=>?_)
 ·obtain⟨L,rs,tb,N,n,m,rfl,_⟩:=h;rfl
 ·obtain⟨L,rs,tb,N,n,m,rfl,e,g,it,ok,i⟩:=h
  refine⟨_,zg (zq (zi zo rfl bl de (af (zf j hr rfl ms Fs.kp bs .nil ak (af (pv 0) ah)) ah))),?_⟩;refine⟨_,rfl,L,rs,tb,N,n,m,rfl,e,g,it,ok,fun a H' u ub v vb st c _ d pp=>⟨a,_,rfl,.inl (SqL.of d),?_⟩⟩;rw[Aa];exact i H' u ub v vb st c pp
end
def SmL(tb:Ξ):Prop:=∀r∈tb,∀x∈r,x.natAbs<low
def SmL.big{tb:Ξ}(h:SmL tb):Pq tb:=fun r hr x hx=>JD (h r hr x hx)
def Sm9(tb:Ξ):Prop:=∀r∈tb,∀x∈r,x.natAbs<=2 ^ 900
def Sm9.low{tb:Ξ}(h:Sm9 tb):SmL tb:=fun r hr x hx=>JC (h r hr x hx) ξ
abbrev Dy:Stmt:=top 44
abbrev jB:Stmt:=top 45
abbrev oT:Stmt:=top 46
structure gi(mg:Str->Option Value):Prop where
 len:mg "len"=none
 all:mg "all"=none
 zip:mg "zip"=none
 sum:mg "sum"=none
 range:mg "range"=none
 list:mg "list"=none
 int:mg "int"=none
 bool:mg "bool"=none
 isinstance:mg "isinstance"=none
 max:mg "max"=none
def Kc(x y:Int):Prop:=0<=x/\(y=0\/(y=1/\x<4294967296))
def zS(H:Hp)(p:Addr):Prop:=∃x y,H p=some (.lst [.int x,.int y])/\Kc x y
def zah(p:Addr)(H H':Hp):Prop:=∀b o,b≠p->H b=some o->H' b=some o
def zah.trans{p:Addr}{H H1 H2:Hp}(a:zah p H H1)(b:zah p H1 H2):zah p H H2:=fun c o hc e=>b c o hc (a c o hc e)
def zah.of{p:Addr}{H H1:Hp}(a:Same H H1):zah p H H1:=fun c o _ e=>a c o e
def zah.free{p:Addr}{H H':Hp}(e:zah p H H')(hb:zS H p)(b:zS H' p){l:Addr}(h:H' l=none):H l=none:=by
 cases q:H l with
 |none=>rfl
 |some o=>
  obtain⟨x,y,e1,_⟩:=b;have a:l≠p:=fun z=>by rw[z,e1] at h;cases h
  rw[e l o a q] at h;cases h
def zS.same{H H':Hp}{p:Addr}(b:zS H p)(e:Same H H'):zS H' p:=let ⟨x,y,h,o⟩:=b;⟨x,y,e _ _ h,o⟩
def zS.ne{H:Hp}{p l:Addr}{c:List Addr}(b:zS H p)(h:H l=some (.lst (c.map V.ref))):l≠p:=by
 obtain⟨x,y,e,_⟩:=b;refine DQ h e fun z=>?_;injection z with z
 cases c with
 |nil=>cases z
 |cons a r=>rw[A5] at z;cases z
def zS.net{H:Hp}{p t:Addr}{xs:List V}(b:zS H p)(h:H t=some (.tup xs)):t≠p:=by
 obtain⟨x,y,e,_⟩:=b;exact DQ h e (by intro z;cases z)
def zah.tp{p:Addr}{H H':Hp}{a:Addr}{ps:List Int}(e:zah p H H')(b:zS H p)(h:Tp H a ps):Tp H' a ps:=e _ _ (b.net h) h
def zah.then{p:Addr}{H H1:Hp}{a:Addr}{o:HO}(e:zah p H H1)(h:H a=none):zah p H (L2.upd H1 a o):=fun b u hb q=>by rw[ao (zk q h)];exact e b u hb q
def zS.upd{H:Hp}{p l:Addr}{o:HO}(b:zS H p)(h:l≠p):zS (L2.upd H l o) p:=let ⟨x,y,e,k⟩:=b;⟨x,y,by rw[ao h.symm];exact e,k⟩
def zS.new{H:Hp}{p l:Addr}{o:HO}(b:zS H p)(h:H l=none):zS (L2.upd H l o) p:=b.same (Same.new h)
section
variable{P:Program}{w:World}{K:Af}{mg:Str->Option Value}{base:Heap}
def Kd(K:Af):Sp:=fun vs H Q _=>∃(l:Addr)(ns:List Int)(j:Nat),vs=[.ref l,.int j]/\SqL K H l (ns.map V.int)/\∀n,Q (.int n) H
def PB:zm ["script","k"] ["script","k"] (ze Dy):=⟨rfl,rfl,rfl,δ,rfl,δ,δ⟩
def PD{f:Addr}{fd:FuncData}(F:Fun K "_law_cell_at" "_law_cell_at" Dy f fd)(B:gi mg):ar P w K mg base aK 1 f fd ["script","k"] (Kd K):=by
 refine F.ok PB (fun vs H Q E h=>?_) (fun c A outer s H vs Q E hr h=>?_)
 ·obtain⟨l,ns,j,rfl,_⟩:=h;rfl
 ·obtain⟨l,ns,j,rfl,a,k⟩:=h
  refine⟨_,zb (cT (zw p_ (pv 1) (zi zo rfl B.len de (af (pv 0) ah)) (av _)) (zg (zq (zu zr (pv 0) (pv 1) (fun _ _=>rfl)))) zL) (zg (zq zd)),?_⟩;refine⟨_,rfl,_,rfl,l,_,rfl,.inl a,_,_,rfl,rfl,_,rfl,?_⟩;refine eh (fun h1=>?_) (fun h1=>?_)
  ·have b:j<ns.length:=by have:=of_decide_eq_true h1;simp at this;(first|lia|omega)
   exact⟨_,rfl,_,rfl,l,_,_,_,rfl,rfl,a,zh (j:=j) (v:=.int ns[j]) (by rw[Aj,Ac b];rfl),k _⟩
  ·exact k 0
def Ke:Sp:=fun vs H Q _=>∃n,vs=[.int n]/\∀p x y,H p=none->Kc x y->Q (.ref p) (upd H p (.lst [.int x,.int y]))
def PF:zm ["cell"] ["cell"] (ze jB):=⟨rfl,rfl,rfl,δ,rfl,δ,δ⟩
def PH{f:Addr}{fd:FuncData}(F:Fun K "_law_box" "_law_box" jB f fd):ar P w K mg base aK 1 f fd ["cell"] Ke:=by
 refine F.ok PF (fun vs H Q E h=>?_) (fun b A outer s H vs Q E hr h=>?_)
 ·obtain⟨n,rfl,_⟩:=h;rfl
 ·obtain⟨n,rfl,k⟩:=h
  refine⟨_,zb (cT (zw LF (pv 0) (zt x3 zd zd) (av _)) (zg (zq (zX (af (zt fy (pv 0) (zt x3 zd zd)) (af zd ah))))) zL)
   (zg (zq (zX (af (zt fT (zt dU (zt iU (zt fT (pv 0) (zt x3 zd zd)) zd) zd) zd) (af zd ah))))),?_⟩
  have hc:kw 10 18:=⟨ξ,ξ,ξ⟩;have a:(10:Int) ^ (18:Int).toNat=1000000000000000000:=ξ
  refine⟨_,rfl,_,_,rfl,rfl,hc,_,_,rfl,rfl,_,rfl,?_⟩;refine eh (fun h1=>?_) (fun h1=>?_)
  ·refine⟨_,rfl,_,_,rfl,rfl,hc,_,_,rfl,rfl,zp (by simp),fun p hp=>k p _ 0 hp ⟨?_,.inl rfl⟩⟩
   have:=of_decide_eq_true h1
   lia
  ·refine⟨_,rfl,_,_,rfl,rfl,hc,_,_,rfl,rfl,(by show(0:Int)<10 ^ (18:Int).toNat;rw[a];decide),_,_,rfl,rfl,.inr ⟨ξ,ξ⟩,_,_,rfl,rfl,_,_,rfl,rfl,(by show(0:Int)<2147483629;decide),zp (by simp),fun p hp=>k p _ 1 hp ⟨?_,.inr ⟨rfl,?_⟩⟩⟩
   ·exact Int.emod_nonneg _ ξ
   ·have:=Int.emod_lt_of_pos (n%10 ^ (18:Int).toNat*69621+7001) (show(0:Int)<2147483629 from ξ)
    lia
def v3:Sp:=fun vs H Q _=>∃p m,vs=[.ref p,.int m]/\zS H p/\0<m/\m<1073741824/\∀r H',0<=r->r<m->zah p H H'->zS H' p->Q (.int r) H'
def Gj:zm ["box","most","found","mixed"] ["box","most"] (ze oT):=⟨rfl,rfl,rfl,δ,rfl,δ,δ⟩
def Gn{f:Addr}{fd:FuncData}(F:Fun K "_law_take" "_law_take" oT f fd):ar P w K mg base aK 1 f fd ["box","most"] v3:=by
 refine F.ok Gj (fun vs H Q E h=>?_) (fun I A outer s H vs Q E hr h=>?_)
 ·obtain⟨p,m,rfl,_⟩:=h;rfl
 ·obtain⟨p,m,rfl,⟨x,y,hp,d,g⟩,a,D,k⟩:=h
  refine⟨_,zb (cT (zw fX (zu zr (pv 0) zd (fun _ _=>rfl)) zd (av _))
    (zb (zj (i:=2) Gj.nd rfl (Or.inl rfl) (zt fT (zu zr (pv 0) zd (fun _ _=>rfl)) (pv 1)))
    (zb (jP (zt D_ (zu zr (pv 0) zd (fun _ _=>rfl)) (pv 1)) (jO (pv 0) zd set_list))
    (zg (zq (pv 2))))) zL)
   (zb (zj (i:=3) Gj.nd rfl (Or.inl rfl) (zt fT (zt dU (zt dU (zt iU (zu zr (pv 0) zd (fun _ _=>rfl)) (zu zr (pv 0) zd (fun _ _=>rfl))) (zt iU zd (zu zr (pv 0) zd (fun _ _=>rfl)))) zd) zd))
   (zb (jP (zt fT (zt dU (zt dU (zt iU (pv 3) (pv 3)) (zt iU zd (pv 3))) zd) zd) (jO (pv 0) zd set_list))
   (zg (zq (zt fT (zt D_ (zu zr (pv 0) zd (fun _ _=>rfl)) zd) (pv 1)))))),?_⟩
  have c:atI ([.int x,.int y]:List V) 0=some (.int x):=zh (j:=0) rfl;have a1:atI ([.int x,.int y]:List V) 1=some (.int y):=zh (j:=1) rfl;refine⟨_,rfl,p,_,_,_,rfl,rfl,SqL.of hp,a1,rfl,_,rfl,?_⟩;refine eh (fun h1=>?_) (fun h1=>?_)
  ·refine⟨_,rfl,p,_,_,_,rfl,rfl,SqL.of hp,c,_,rfl,_,_,rfl,rfl,a,?_⟩
   refine⟨_,rfl,p,_,_,_,rfl,rfl,SqL.of hp,c,_,rfl,_,_,rfl,rfl,⟨a,D⟩,_,rfl,p,_,_,0,rfl,rfl,hp,rfl,?_⟩;refine⟨_,rfl,k (x%m) _ (Int.emod_nonneg _ (by lia)) (Int.emod_lt_of_pos _ a) (fun b o hb e=>by rw[ao hb];exact e) ⟨x / m,y,za,Int.ediv_nonneg d (by lia),?_⟩⟩;rcases g with q|⟨q,hx⟩
   ·exact .inl q
   ·refine .inr ⟨q,Int.lt_of_le_of_lt (Int.ediv_le_self _ d) hx⟩
  ·have hy:y=1/\x<4294967296:=by
    rcases g with q|q
    ·exact absurd (by subst q;rfl) h1
    ·exact q
   obtain⟨rfl,hx⟩:=hy;have hb:CMul x x:=.inl ⟨by lia,by lia⟩;refine⟨_,rfl,p,_,_,_,rfl,rfl,SqL.of hp,c,_,rfl,p,_,_,_,rfl,rfl,SqL.of hp,c,_,_,rfl,rfl,hb,_,rfl,p,_,_,_,rfl,rfl,SqL.of hp,c,_,_,rfl,rfl,.inl ⟨ξ,ξ⟩,_,_,rfl,rfl,_,_,rfl,rfl,_,_,rfl,rfl,(by show(0:Int)<2147483647;decide),?_⟩;have G:=Int.emod_nonneg (x*x+39373*x+12345) (show(2147483647:Int)≠0 from ξ);have m1:=Int.emod_lt_of_pos (x*x+39373*x+12345) (show(0:Int)<2147483647 from ξ);obtain⟨z,l⟩:∃z,z=(x*x+39373*x+12345)%2147483647:=⟨_,rfl⟩;rw[<-l] at G m1;show pN _ _ _ ([some (.ref p),some (.int m),none,some (.int ((x*x+39373*x+12345)%2147483647))]:St) H;rw[<-l];refine⟨_,rfl,_,rfl,_,_,rfl,rfl,.inl ⟨by lia,by lia⟩,_,rfl,_,_,rfl,rfl,.inl ⟨ξ,ξ⟩,_,_,rfl,rfl,_,_,rfl,rfl,_,_,rfl,rfl,(by show(0:Int)<2147483587;decide),_,rfl,p,_,_,0,rfl,rfl,hp,rfl,?_⟩;have v:=Int.emod_nonneg (z*z+16807*z+7) (show(2147483587:Int)≠0 from ξ);have g1:=Int.emod_lt_of_pos (z*z+16807*z+7) (show(0:Int)<2147483587 from ξ);obtain⟨u,r⟩:∃u,u=(z*z+16807*z+7)%2147483587:=⟨_,rfl⟩;rw[<-r] at v g1;have C:upd H p (.lst [.int ((z*z+16807*z+7)%2147483587),.int 1]) p=some (.lst [.int u,.int 1]):=by rw[r];exact za
   refine⟨_,rfl,p,_,_,_,rfl,rfl,SqL.of C,zh (j:=0) rfl,_,_,rfl,rfl,⟨ξ,ξ⟩,_,rfl,_,_,rfl,rfl,a,?_⟩;exact k _ _ (Int.emod_nonneg _ (by lia)) (Int.emod_lt_of_pos _ a) (fun b o hb e=>by rw[ao hb];exact e) ⟨u,1,C,v,.inr ⟨rfl,by lia⟩⟩
end
abbrev hX:Stmt:=top 47
abbrev jE:Stmt:=top 48
section
variable{P:Program}{w:World}{K:Af}{mg:Str->Option Value}{base:Heap}
def Bnd(m:Int)(ns:List Int):Prop:=∀n∈ns,-m<=n/\n<=m
def Gq:Sp:=fun vs H Q _=>∃(p:Addr)(c:Nat)(a:Int),vs=[.ref p,.int c,.int a]/\zS H p/\c<=1000/\0<a/\a<1073741824/\∀D H' ns,zah p H H'->zS H' p->H D=none->H' D=some (.lst (ns.map V.int))->ns.length=c->Bnd a ns->Q (.ref D) H'
def PJ:zm ["box","columns","wide"] ["box","columns","wide"] (ze hX):=⟨rfl,rfl,rfl,δ,rfl,δ,δ⟩
def Kf{f u:Addr}{fd G:FuncData}(F:Fun K "_law_row" "_law_row" hX f fd)(B:gi mg)(Ft:Fun K "_law_take" "_law_take" oT u G)(bt:Binds K G ["box","most"] [])(mt:mg "_law_take"=some (.ref u)):ar P w K mg base aK 2 f fd ["box","columns","wide"] Gq:=by
 have T:ar P w K mg base aK 1 u G ["box","most"] v3:=Gn Ft;refine F.ok PJ (fun vs H Q E h=>?_) (fun U A outer s H vs Q E hr h=>?_)
 ·obtain⟨p,c,d,rfl,_⟩:=h;rfl
 ·obtain⟨p,c,d,rfl,hb,hc,N,O,k⟩:=h
  refine⟨_,zg (zq (zx ["box","columns","wide"] ["place","box","wide"] [none,some 0,some 2] (kn rfl B.range (af (pv 1) ah)) (fun I C s₀ H₀ ex=>zl (i:=0) (bF ["place","box","wide"]) rfl (Or.inl rfl)) (fun I C s₀ H₀ ex=>zA)
   (fun I C s₀ H₀ ex=>zt fy (zf T hr rfl mt Ft.kp bt .nil ak (af (pv 1) (af (pv 2) ah))) (zt D_ (pv 2) zd)) (te:=bI (eO fun i j=>.int (i-j)) (fY v3 [] E0 (zO (aw 1) (zO (aw 2) bL))) (bI (rI pT fun i j=>.int (i / j)) (aw 2) (tC (.int 2)))) (hfr:=a_ (ze hX) δ))),?_⟩
  refine⟨_,rfl,_,rfl,ω,ω,fun D l=>?_⟩;have L:D≠p:=fun z=>by obtain⟨x,y,e,_⟩:=hb;rw[<-z,l] at e;cases e
  refine zy (nu (fun j σ ys g=>∃(v:Option V)(ns:List Int),σ=[v,some (.ref p),some (.int d)]/\zah p H g/\zS g p/\g D=some (.lst ys)/\ys=ns.map V.int/\ns.length=j/\Bnd d ns) ?_ ?_ ?_)
  ·exact⟨none,[],rfl,.of (Same.new l),hb.new l,za,rfl,rfl,fun n hn=>by cases hn⟩
  ·rintro j σ ys g S hy ⟨v,ns,rfl,o,a,b,rfl,q,bd⟩
   refine cf ?_;refine⟨_,rfl,_,rfl,p,d,rfl,a,N,O,fun r Y W X J M=>⟨_,rfl,_,_,rfl,rfl,⟨ξ,ξ⟩,_,_,rfl,rfl,?_⟩⟩;refine bB (zp ω) S hy (J _ _ L b) ⟨_,ns++[r-d / 2],rfl,(o.trans J).then l,M.upd L,za,by simp,by simp[q],fun n hn=>?_⟩;rcases List.mem_append.mp hn with h|h
   ·exact bd n h
   ·obtain rfl:n=r-d / 2:=by simpa using h
    (first|lia|omega)
  ·rintro σ ys g ⟨v,ns,rfl,o,a,b,rfl,q,bd⟩
   exact k D g ns o a l b q bd
end
def Rws.sameB{p:Addr}{H H':Hp}{ds:List Addr}{tb:Ξ}(h:Rws H ds tb)(s:zah p H H'):(∀d∈ds,d≠p)->Rws H' ds tb:=by
 induction h with
 |nil=>intro _;exact .nil
 |cons r t ih=>intro n;exact .cons (s _ _ (n _ (At)) r) (ih fun d hd=>n d (Ay _ hd))
def Rws.set{H:Hp}{ds:List Addr}{tb:Ξ}{d:Addr}{ns:List Int}(h:Rws H ds tb)(e:H d=some (.lst (ns.map V.int))):∀i:Nat,Rws H (ds.set i d) (tb.set i ns):=by
 induction h with
 |nil=>intro i;exact .nil
 |cons r t ih=>
  intro i;cases i with
  |zero=>exact .cons e t
  |succ i=>exact .cons r (ih i)
section
variable{P:Program}{w:World}{K:Af}{mg:Str->Option Value}{base:Heap}
def PK{p D:Addr}{H2:Hp}{n:Nat}{Q:VK}{Pr:List Int->Prop}{te:TE}{c:List (Option V)}(hb:zS H2 p)(J:∀(j:Nat)(H:Hp)(R:VK),zah p H2 H->zS H p->(∀d H' ns,zah p H H'->zS H' p->H d=none->H' d=some (.lst (ns.map V.int))->Pr ns->R (.ref d) H')->te (some (.int j)::c) H R)(hz:n<=1000)(o:H2 D=none)(k:∀a ds tb,zah p H2 a->zS a p->a D=some (.lst (ds.map V.ref))->Rws a ds tb->tb.length=n->(∀r∈tb,Pr r)->(∀d∈ds,H2 d=none/\d≠D)->Q (.ref D) a):cm (eY 0 n) (zH 0) bx te (none::c) H2 D Q:=by
 have l:∀d,H2 d=none->d≠p:=fun d e z=>by obtain⟨x,y,w,_⟩:=hb;rw[<-z,e] at w;cases w
 have A:=l D o;refine nu (fun j σ ys a=>∃(v:Option V)(ds:List Addr)(tb:Ξ),σ=v::c/\zah p H2 a/\zS a p/\a D=some (.lst ys)/\ys=ds.map V.ref/\Rws a ds tb/\tb.length=j/\(∀r∈tb,Pr r)/\∀d∈ds,H2 d=none/\d≠D) ?_ ?_ ?_
 ·exact⟨none,[],[],rfl,.of (Same.new o),hb.new o,za,rfl,.nil,rfl,(fun d hd=>by cases hd),fun d hd=>by cases hd⟩
 ·rintro j σ ys a G hy ⟨v,ds,tb,rfl,i,b,f,rfl,hr,s,hp,hn⟩
  refine cf ?_;rw[show(0:Int)+((j:Nat):Int)=((j:Nat):Int) from ω];refine J j a _ i b fun d L ns q C hd E pr=>?_;have I:H2 d=none:=i.free hb b hd;have u:d≠D:=fun z=>by rw[z,f] at hd;cases hd
  have all:∀e∈ds++[d],H2 e=none/\e≠D:=fun e g=>by
   rcases List.mem_append.mp g with h|h
   ·exact hn e h
   ·obtain rfl:e=d:=by simpa using h
    exact⟨I,u⟩
  refine bB (zp ω) G hy (q _ _ A f) ⟨_,ds++[d],tb++[ns],rfl,(i.trans q).then o,C.upd A,za,by simp,?_,by simp[s],fun r F=>?_,all⟩
  ·exact((hr.sameB q fun e g=>l e (hn e g).1).snoc E).upd fun e g=>(all e g).2
  ·rcases List.mem_append.mp F with h|h
   ·exact hp r h
   ·obtain rfl:r=ns:=by simpa using h
    exact pr
 ·rintro σ ys a ⟨v,ds,tb,rfl,i,b,f,rfl,hr,s,hp,hn⟩
  exact k a ds tb i b f hr s hp hn
abbrev lN:TE:=bI (rI CMul fun i j=>.int (i*j)) (aw 1) (aw 0)
def Kg{R D:Addr}{H2:Hp}{ns:List Int}{o:Int}{Q:VK}(e:-(2 ^ 64)<o/\o<2 ^ 64)(f:H2 R=some (.lst (ns.map V.int)))(hz:ns.length<=1000)(c:H2 D=none)(k:∀a,Same H2 a->a D=some (.lst ((ns.map (o*·)).map V.int))->Q (.ref D) a):cm (dS K R) (zH 0) bx lN [none,some (.int o)] H2 D Q:=by
 refine zY (xs:=ns.map V.int) (fun j σ ys a=>∃(v:Option V),σ=[v,some (.int o)]/\Same H2 a/\a D=some (.lst ys)/\ys=((ns.take j).map (o*·)).map V.int) ?_ ?_ ?_ ?_
 ·exact⟨none,rfl,Same.new c,za,rfl⟩
 ·rintro j σ ys a ⟨v,rfl,sm,_⟩
  exact SqL.of (sm _ _ f)
 ·rintro j σ ys a x hx d hy ⟨v,rfl,sm,b,rfl⟩
  obtain⟨q,g,rfl⟩:=eV hx;refine cf ?_;refine⟨_,rfl,_,rfl,_,_,rfl,rfl,.inl e,bB (by rw[Aa];exact zp ω) d hy b ⟨_,rfl,sm.then c,za,?_⟩⟩;rw[A8 g,Aq,Aq]
  rfl
 ·rintro σ ys a ⟨v,rfl,sm,b,rfl⟩
  rw[Aa,An (Ae _)] at b;exact k a sm b
end
def TabB(H0:Hp)(p F:Addr)(c n:Nat)(m:Int)(H':Hp):Prop:=∃ds tb,zah p H0 H'/\zS H' p/\H' F=some (.lst (ds.map V.ref))/\Rws H' ds tb/\tb.length=n/\(∀r∈tb,r.length=c/\Bnd m r)/\(∀d∈ds,H0 d=none/\d≠F)/\H0 F=none
def hZ{H:Hp}{p d:Addr}(hb:zS H p)(e:H d=none):d≠p:=fun z=>by obtain⟨x,y,a,_⟩:=hb;rw[<-z,e] at a;cases a
def TabB.draw{H0 H' a:Hp}{p F:Addr}{c n:Nat}{m:Int}(hb:zS H0 p)(h:TabB H0 p F c n m H')(s:zah p H' a)(b:zS a p):TabB H0 p F c n m a:=by
 obtain⟨ds,tb,f,_,g,hr,i,hp,hn,e⟩:=h;exact⟨ds,tb,f.trans s,b,s _ _ (hZ hb e) g,hr.sameB s fun d hd=>hZ hb (hn d hd).1,i,hp,hn,e⟩
def Bnd.mono{m a:Int}{ns:List Int}(h:Bnd m ns)(b:m<=a):Bnd a ns:=fun n hn=>by have:=h n hn;(first|lia|omega)
def Bnd.times{m k o:Int}{ns:List Int}(h:Bnd m ns)(c:0<=m)(h1:-k<=o)(h2:o<=k):Bnd (k*m) (ns.map (o*·)):=fun n hn=>by
 obtain⟨q,hq,rfl⟩:=List.mem_map.mp hn;obtain⟨d,e⟩:=h q hq;have hk:0<=k:=ω
 have e1:o.natAbs<=k.natAbs:=ω
 have e2:q.natAbs<=m.natAbs:=ω
 have e3:(o*q).natAbs<=(k*m).natAbs:=by rw[AD,AD];exact AL e1 e2
 have f:0<=k*m:=Int.mul_nonneg hk c;show -(k*m)<=o*q/\o*q<=k*m;generalize o*q=a at *;generalize k*m=b at *;(first|lia|omega)
def TabB.put{H0 H' q:Hp}{p F D:Addr}{c n:Nat}{m g:Int}{ds:List Addr}{tb:Ξ}{i:Nat}{ns:List Int}(hb:zS H0 p)(s:zah p H0 H')(u:zS H' p)(A:H' F=some (.lst (ds.map V.ref)))(hr:Rws H' ds tb)(C:tb.length=n)(hp:∀r∈tb,r.length=c/\Bnd m r)(hn:∀d∈ds,H0 d=none/\d≠F)(j:H0 F=none)(l:H' D=none)(sm:Same H' q)(e:q D=some (.lst (ns.map V.int)))(E:ns.length=c)(G:Bnd g ns)(H:m<=g):TabB H0 p F c n g (L2.upd q F (.lst ((ds.map V.ref).set i (.ref D)))):=by
 have x:=hZ hb j;have y:D≠F:=fun z=>by rw[z,A] at l;cases l
 have f:H0 D=none:=s.free hb u l;have mem:∀d∈ds.set i D,H0 d=none/\d≠F:=fun d hd=>by
  rcases List.mem_or_eq_of_mem_set hd with h|h
  ·exact hn d h
  ·rw[h];exact⟨f,y⟩
 refine⟨ds.set i D,tb.set i ns,fun b o v a=>?_,(u.same sm).upd x,?_,((hr.same sm).set e i).upd fun d hd=>(mem d hd).2,by simp[C],fun r w=>?_,mem,j⟩
 ·rw[ao (fun z=>by rw[z,j] at a;cases a)]
  exact sm _ _ (s b o v a)
 ·rw[za,List.map_set]
 ·rcases List.mem_or_eq_of_mem_set w with h|h
  ·exact⟨(hp r h).1,(hp r h).2.mono H⟩
  ·rw[h];exact⟨E,G⟩
def Gx{n:Nat}{k:Int}(a:0<=k)(h1:k<n):eR n k=some k.toNat:=by unfold eR;rw[if_pos a,if_pos h1]
def Kh{a:Type}{xs:List a}{k:Int}{v:a}(b:0<=k)(h1:k<xs.length)(e:xs[k.toNat]?=some v):atI xs k=some v:=by unfold atI;rw[Gx b h1];exact e
section
variable{P:Program}{w:World}{K:Af}{mg:Str->Option Value}{base:Heap}
def Ki:Sp:=fun vs H Q _=>∃(p:Addr)(q:Nat),vs=[.ref p,.int q]/\q<=6/\zS H p/\∀F H' c n,c<=q->n<=q->TabB H p F c n 1000 H'->Q (.ref F) H'
def iO:zm ["box","most","rows","columns","wide","found","one","other","often"] ["box","most"] (ze jE):=⟨rfl,rfl,rfl,δ,rfl,δ,δ⟩
def PM{f ft fr:Addr}{fd bQ dY:FuncData}(F:Fun K "_law_table" "_law_table" jE f fd)(B:gi mg)(Ft:Fun K "_law_take" "_law_take" oT ft bQ)(bt:Binds K bQ ["box","most"] [])(mt:mg "_law_take"=some (.ref ft))(Fr:Fun K "_law_row" "_law_row" hX fr dY)(br:Binds K dY ["box","columns","wide"] [])(mr:mg "_law_row"=some (.ref fr)):ar P w K mg base aK 3 f fd ["box","most"] Ki:=by
 have z:ar P w K mg base aK 1 ft bQ ["box","most"] v3:=Gn Ft;have Gr:ar P w K mg base aK 2 fr dY ["box","columns","wide"] Gq:=Kf Fr B Ft bt mt;refine F.ok iO (fun vs H Q E h=>?_) (fun ai A outer s H vs Q E hr h=>?_)
 ·obtain⟨p,q,rfl,_⟩:=h;rfl
 ·obtain⟨p,q,rfl,Cf,hb,k⟩:=h
  have a:Room 1 _:=hr.mono ξ;have l_:∃tt,PSs (bG aK P w K mg base ["box","most","rows","columns","wide","found","one","other","often"] "_law_table" (ze jE) f ai A outer s H E).nox (List.drop 5 (zal jE)) tt/\∀(e:Addr)(n c:Nat)(x4 v6 v7 v8:Option V)(H':Hp),n<=q->c<=q->TabB H p e c n 122 H'->
    tt {nx:=fun _ H'=>Q .non H',rt:=Q} [some (.ref p),some (.int q),some (.int n),some (.int c),x4,some (.ref e),v6,v7,v8] H':=by
   refine⟨_,(zb (cT (PW.pt (DU (zw iV (pv 2) zd (av _)) (DT (zw fX (zf z a rfl mt Ft.kp bt .nil ak (af (pv 0) (af zd ah))) zd (av _)))))
    (zb (zj (i:=6) iO.nd rfl (Or.inl rfl) (zf z a rfl mt Ft.kp bt .nil ak (af (pv 0) (af (pv 2) ah))))
    (zb (zj (i:=8) iO.nd rfl (Or.inr rfl) (zt dU zd (zf z a rfl mt Ft.kp bt .nil ak (af (pv 0) (af zd ah)))))
    (zg (jP (zx ["box","most","rows","columns","wide","found","one","other","often"] ["number","often"] [none,some 8] (zF (zu zr (pv 5) (pv 6) (fun _ _=>rfl))) (fun I C s₀ H₀ ex=>zl (i:=0) (bF ["number","often"]) rfl (Or.inl rfl)) (fun I C s₀ H₀ ex=>zA)
     (fun I C s₀ H₀ ex=>zt iU (pv 1) (pv 0)) (te:=lN) (hfr:=a_ (ze jE) δ)) (jO (pv 5) (pv 6) set_list))))) zL)
    (zg (zq (pv 5)))),?_⟩
   intro e n c x4 v6 v7 v8 H' hn hc T;have bJ:zS H' p:=by obtain⟨_,_,_,b,_⟩:=T;exact b
   refine⟨_,rfl,_,_,rfl,rfl,_,rfl,?_⟩
   by_cases c1:0<n
   ·rw[decide_eq_true (show(0:Int)<(n:Int) from ω)]
    refine aW ⟨_,rfl,p,_,rfl,bJ,ξ,ξ,fun u H1 u0 u1 gW Y=>⟨rfl,_,rfl,?_⟩⟩;have T1:=T.draw hb gW Y;refine eh (fun _=>?_) (fun _=>?_)
    ·refine⟨_,rfl,_,rfl,p,_,rfl,Y,ω,ω,fun i H2 Z i1 fI S=>?_⟩
     refine⟨_,rfl,p,_,rfl,S,ξ,ξ,fun o H3 o0 o1 gQ l=>⟨_,_,rfl,rfl,?_⟩⟩;obtain⟨ds,tb,L,M,y,x,G,hp,g,N⟩:=(T1.draw hb fI S).draw hb gQ l;have gD:=x.len;have hi:i.toNat<ds.length:=ω
     obtain⟨ns,en,X⟩:=x.get (Ac hi);have O:=Am en;refine⟨_,rfl,_,rfl,e,_,_,_,rfl,rfl,SqL.of y,Kh (v:=.ref ds[i.toNat]) Z (by rw[Aa];(first|lia|omega)) (by rw[Aj,Ac hi];rfl),_,rfl,⟨_,SqL.of X⟩,fun D U=>?_⟩;refine zy (Kg (o:=1+o) ⟨ω,ω⟩ X (by rw[(hp ns O).1];(first|lia|omega)) U fun H4 aL cr=>?_);refine⟨_,rfl,_,rfl,e,_,_,i.toNat,rfl,rfl,aL _ _ y,Gx Z (by rw[Aa];(first|lia|omega)),?_⟩;refine⟨_,rfl,k e _ c n hc hn ?_⟩;exact TabB.put hb L M y x G hp g N U aL cr (by rw[Aa];exact(hp ns O).1) (((hp ns O).2.times (k:=6) ω ω ω).mono ω) ω
    ·obtain⟨ds,tb,L,M,y,x,G,hp,g,N⟩:=T1
     exact⟨_,rfl,k e _ c n hc hn ⟨ds,tb,L,M,y,x,G,fun r J=>⟨(hp r J).1,(hp r J).2.mono ω⟩,g,N⟩⟩
   ·rw[decide_eq_false (show ¬(0:Int)<(n:Int) from ω)]
    refine aR (aR ?_);obtain⟨ds,tb,L,M,y,x,G,hp,g,N⟩:=T;exact⟨_,rfl,k e _ c n hc hn ⟨ds,tb,L,M,y,x,G,fun r J=>⟨(hp r J).1,(hp r J).2.mono ω⟩,g,N⟩⟩
  obtain⟨tt,ht,kt⟩:=l_;refine⟨_,zb (zj (i:=2) iO.nd rfl (Or.inl rfl) (zf z a rfl mt Ft.kp bt .nil ak (af (pv 0) (af (zt dU (pv 1) zd) ah))))
   (zb (zj (i:=3) iO.nd rfl (Or.inr rfl) (zf z a rfl mt Ft.kp bt .nil ak (af (pv 0) (af (zt dU (pv 1) zd) ah))))
   (zb (zj (i:=4) iO.nd rfl (Or.inr rfl) (zu zr (zX (af zd (af zd (af zd (af zd ah))))) (zf z a rfl mt Ft.kp bt .nil ak (af (pv 0) (af zd ah))) (fun _ _=>rfl)))
   (zb (nH (i:=5) iO.nd rfl (Or.inl rfl) ["box","most","rows","columns","wide","found","one","other","often"] ["row","box","columns","wide"] [none,some 0,some 3,some 4] (kn rfl B.range (af (pv 2) ah)) (fun I C s₀ H₀ ex=>zl (i:=0) (bF ["row","box","columns","wide"]) rfl (Or.inl rfl)) (fun I C s₀ H₀ ex=>zA)
    (fun I C s₀ H₀ ex=>zf Gr hr rfl mr Fr.kp br .nil ak (af (pv 1) (af (pv 2) (af (pv 3) ah)))) (te:=fY Gq [] E0 (zO (aw 1) (zO (aw 2) (zO (aw 3) bL)))) (hfr:=a_ (ze jE) δ))
   (zb (cT (PW.pt (DU (zw iV (pv 2) zd (av _)) (DT (zw fX (zf z a rfl mt Ft.kp bt .nil ak (af (pv 0) (af zd ah))) zd (av _)))))
    (zb (zj (i:=6) iO.nd rfl (Or.inl rfl) (zf z a rfl mt Ft.kp bt .nil ak (af (pv 0) (af (pv 2) ah))))
    (zb (zj (i:=7) iO.nd rfl (Or.inl rfl) (zf z a rfl mt Ft.kp bt .nil ak (af (pv 0) (af (pv 2) ah))))
    (zb (zj (i:=8) iO.nd rfl (Or.inr rfl) (zt fy (zf z a rfl mt Ft.kp bt .nil ak (af (pv 0) (af zd ah))) zd))
    (zg (jP (zx ["box","most","rows","columns","wide","found","one","other","often"] ["number","often"] [none,some 8] (zF (zu zr (pv 5) (pv 7) (fun _ _=>rfl))) (fun I C s₀ H₀ ex=>zl (i:=0) (bF ["number","often"]) rfl (Or.inl rfl)) (fun I C s₀ H₀ ex=>zA)
     (fun I C s₀ H₀ ex=>zt iU (pv 1) (pv 0)) (te:=lN) (hfr:=a_ (ze jE) δ)) (jO (pv 5) (pv 6) set_list)))))) zL)
   ht)))),?_⟩
  refine⟨_,rfl,_,rfl,_,_,rfl,rfl,p,_,rfl,hb,ω,ω,fun n H1 n0 n1 gW Y=>?_⟩;refine⟨_,rfl,_,rfl,_,_,rfl,rfl,p,_,rfl,Y,ω,ω,fun c H2 c0 c1 fI S=>?_⟩;refine⟨ξ,fun q hq=>⟨_,rfl,p,_,rfl,S.new hq,ξ,ξ,fun v H3 v0 v1 gQ l=>?_⟩⟩;obtain⟨n,rfl⟩:∃m:Nat,n=(m:Int):=⟨n.toNat,ω⟩;obtain⟨c,rfl⟩:∃m:Nat,c=(m:Int):=⟨c.toNat,ω⟩;obtain⟨W,ew,w0,w1⟩:∃W:Int,atI [V.int 3,.int 5,.int 13,.int 61] v=some (.int W)/\0<W/\W<=61:=by
   have:v=0\/v=1\/v=2\/v=3:=ω
   rcases this with rfl|rfl|rfl|rfl
   ·exact⟨3,rfl,ξ,ξ⟩
   ·exact⟨5,rfl,ξ,ξ⟩
   ·exact⟨13,rfl,ξ,ξ⟩
   ·exact⟨61,rfl,ξ,ξ⟩
  refine⟨q,_,_,_,rfl,rfl,SqL.of (gQ _ _ (hZ S hq) za),ew,?_⟩;have S3:zah p H H3:=((gW.trans fI).trans (.of (Same.new hq))).trans gQ;refine⟨_,rfl,_,rfl,ω,ω,fun e y=>?_⟩;refine zy (PK (p:=p) (n:=n) (Pr:=fun ns=>ns.length=c/\Bnd 61 ns) l (fun j H' R L bJ hR=>⟨_,rfl,_,rfl,_,rfl,p,c,W,rfl,bJ,ω,w0,ω,fun d H4 ns dw dJ hd e4 G bd=>hR d H4 ns dw dJ hd e4 ⟨G,bd.mono w1⟩⟩) ω y fun H4 ds tb dw dJ sM wE xF gg oE=>?_);have T4:TabB H p e c n 61 H4:=⟨ds,tb,S3.trans dw,dJ,sM,wE,xF,gg,fun d hd=>⟨S3.free hb l (oE d hd).1,(oE d hd).2⟩,S3.free hb l y⟩;have up:∀H',TabB H p e c n 61 H'->TabB H p e c n 122 H':=fun H' ⟨ds,tb,a1,a2,a3,a4,a5,a6,a7,a8⟩=>⟨ds,tb,a1,a2,a3,a4,a5,fun r J=>⟨(a6 r J).1,(a6 r J).2.mono ω⟩,a7,a8⟩;refine⟨_,rfl,_,_,rfl,rfl,_,rfl,?_⟩
  by_cases c1':1<n
  ·rw[decide_eq_true (show(1:Int)<(n:Int) from ω)]
   refine aW ⟨_,rfl,p,_,rfl,dJ,ξ,ξ,fun u H5 u0 u1 uM pG=>⟨rfl,_,rfl,?_⟩⟩;have T5:=T4.draw hb uM pG;refine eh (fun _=>?_) (fun _=>?_)
   ·refine⟨_,rfl,_,rfl,p,_,rfl,pG,ω,ω,fun i H6 Z i1 qY jD=>?_⟩
    refine⟨_,rfl,_,rfl,p,_,rfl,jD,ω,ω,fun o H7 o0 o1 yU qv=>?_⟩;refine⟨_,rfl,p,_,rfl,qv,ξ,ξ,fun t H8 t0 t1 wz sx=>⟨_,_,rfl,rfl,?_⟩⟩;obtain⟨ds,tb,L,M,j_,x,G,hp,g,N⟩:=((T5.draw hb qY jD).draw hb yU qv).draw hb wz sx;have gD:=x.len;have hi:o.toNat<ds.length:=ω
    obtain⟨ns,en,X⟩:=x.get (Ac hi);have O:=Am en;refine⟨_,rfl,_,rfl,e,_,_,_,rfl,rfl,SqL.of j_,Kh (v:=.ref ds[o.toNat]) o0 (by rw[Aa];(first|lia|omega)) (by rw[Aj,Ac hi];rfl),_,rfl,⟨_,SqL.of X⟩,fun D U=>?_⟩;refine zy (Kg (o:=t-2) ⟨ω,ω⟩ X (by rw[(hp ns O).1];(first|lia|omega)) U fun H9 qA uk=>?_);refine⟨_,rfl,_,rfl,e,_,_,i.toNat,rfl,rfl,qA _ _ j_,Gx Z (by rw[Aa];(first|lia|omega)),?_⟩;exact kt e n c _ _ _ _ _ ω ω (TabB.put hb L M j_ x G hp g N U qA uk (by rw[Aa];exact(hp ns O).1) (((hp ns O).2.times (k:=2) ω ω ω).mono ω) ω)
   ·exact kt e n c _ _ _ _ _ ω ω (up _ T5)
  ·rw[decide_eq_false (show ¬(1:Int)<(n:Int) from ω)]
   exact aR (aR (kt e n c _ _ _ _ _ ω ω (up _ T4)))
end
abbrev v':Stmt:=top 49
abbrev wh:Stmt:=top 50
abbrev Dz:Stmt:=top 51
def PN:A4 "int"=some (.type "int"):=δ
def PQ:A4 "bool"=some (.type "bool"):=δ
def Kj:A4 "list"=some (.type "list"):=δ
section
variable{P:Program}{w:World}{K:Af}{mg:Str->Option Value}{base:Heap}
def Gy(K:Af):Sp:=fun vs H Q _=>∃L rs tb,vs=[.ref L]/\SqL K H L (rs.map V.ref)/\Rws H rs tb/\∀H',Same H H'->Q (.int (wid tb)) H'
def PR:zm ["table"] ["table"] (ze v'):=⟨rfl,rfl,rfl,δ,rfl,δ,δ⟩
def PU{f:Addr}{fd:FuncData}(F:Fun K "_law_wide" "_law_wide" v' f fd)(B:gi mg):ar P w K mg base aK 1 f fd ["table"] (Gy K):=by
 refine F.ok PR (fun vs H Q E h=>?_) (fun o A outer s H vs Q E hr h=>?_)
 ·obtain⟨L,rs,tb,rfl,_⟩:=h;rfl
 ·obtain⟨L,rs,tb,rfl,c,b,k⟩:=h
  have i:=hr.units;refine⟨_,zg (zq (xn (zw (FY i) (pv 0) (zX ah) (av _)) (zi zo rfl B.len de (af (zu zr (pv 0) zd (fun _ _=>rfl)) ah)) zd)),?_⟩;refine⟨_,rfl,ξ,fun p hp=>?_⟩;have sm:Same H (upd H p (.lst [])):=Same.new hp;refine⟨cF tb,cF [],kb (sm.seq c) (b.same sm),kb (rs:=[]) (SqL.of za) .nil,oN _,oN _,F' _ _,_,rfl,?_⟩;rw[if_pos rfl,Ds];have l:=b.len;cases tb with
  |nil=>
   rw[show(!decide (([]:Ξ)=[]))=false from rfl];exact aR (k _ sm)
  |cons r t=>
   rw[show(!decide ((r::t:Ξ)=[]))=true from by simp];cases rs with
   |nil=>cases l
   |cons a as=>
    obtain⟨ns,e,g⟩:=b.get (j:=0) rfl;refine aW ⟨_,rfl,L,_,_,_,rfl,rfl,sm.seq c,zh (j:=0) rfl,a,_,rfl,.inl (SqL.of (sm _ _ g)),?_⟩;have:wid (r::t)=ns.length:=by unfold wid;rw[e];rfl
    have d:=k _ sm;rw[this] at d;rw[Aa];exact d
end
def zG:A4 "isinstance"=some (.builtin "isinstance"):=δ
def PV{a:Type}(l:List a):(l.map fun _=>true).all id=true:=by rw[List.all_map,AY];exact fun _ _=>rfl
section
variable{P:Program}{w:World}{K:Af}{mg:Str->Option Value}{base:Heap}
def DA:Sp:=fun vs H Q _=>∃n:Int,vs=[.int n]/\Q (.bl true) H
def PX:zm ["found"] ["found"] (ze wh):=⟨rfl,rfl,rfl,δ,rfl,δ,δ⟩
def Kk{f:Addr}{fd:FuncData}(F:Fun K "_law_whole" "_law_whole" wh f fd)(B:gi mg):ar P w K mg base aK 1 f fd ["found"] DA:=by
 refine F.ok PX (fun vs H Q E h=>?_) (fun a A outer s H vs Q E hr h=>?_)
 ·obtain⟨n,rfl,_⟩:=h;rfl
 ·obtain⟨n,rfl,k⟩:=h
  refine⟨_,zg (zq (kf (zi MZ rfl B.isinstance zG (af (pv 0) (af (xh (v:=.ty "int") rfl B.int PN rfl) ah))) (mK (Lr (zi M0 rfl B.isinstance zG (af (pv 0) (af (xh (v:=.ty "bool") rfl B.bool PQ rfl) ah))))))),?_⟩;exact⟨_,rfl,n,rfl,_,rfl,aW ⟨_,rfl,n,rfl,_,rfl,k⟩⟩
def PY{H2:Hp}{l D:Addr}{ns:List Int}{Q:VK}{te:TE}(f:∀(n:Int)(H:Hp)(R:VK),R (.bl true) H->te [some (.int n)] H R)(g:H2 l=some (.lst (ns.map V.int)))(hz:ns.length<=1000)(c:H2 D=none)(k:∀a,Same H2 a->a D=some (.lst ((ns.map fun _=>true).map V.bl))->Q (.ref D) a):cm (dS K l) (zH 0) bx te [none] H2 D Q:=by
 refine zY (xs:=ns.map V.int) (fun j σ ys a=>∃v:Option V,σ=[v]/\Same H2 a/\a D=some (.lst ys)/\ys=((ns.map fun _=>true).take j).map V.bl) ?_ ?_ ?_ ?_
 ·exact⟨none,rfl,Same.new c,za,rfl⟩
 ·rintro j σ ys a ⟨v,rfl,sm,_⟩
  exact SqL.of (sm _ _ g)
 ·rintro j σ ys a x hx d hy ⟨v,rfl,sm,b,rfl⟩
  obtain⟨q,eq,rfl⟩:=eV hx;have e:(ns.map fun _=>true)[j]?=some true:=by rw[Aj,eq];rfl
  refine cf ?_;exact f q a _ (bB (by rw[Aa];exact zp ω) d hy b ⟨_,rfl,sm.then c,za,by rw[A8 e,Aq];rfl⟩)
 ·rintro σ ys a ⟨v,rfl,sm,b,rfl⟩
  rw[An (by simp)] at b;exact k a sm b
def Kl:Sp:=fun vs H Q _=>∃l ns,vs=[.ref l]/\H l=some (.lst (List.map V.int ns))/\ns.length<=1000/\∀H',Same H H'->Q (.bl true) H'
def PZ:zm ["found"] ["found"] (ze Dz):=⟨rfl,rfl,rfl,δ,rfl,δ,δ⟩
def P0{f c:Addr}{fd d:FuncData}(F:Fun K "_law_row_like" "_law_row_like" Dz f fd)(B:gi mg)(Fw:Fun K "_law_whole" "_law_whole" wh c d)(o:Binds K d ["found"] [])(p:mg "_law_whole"=some (.ref c)):ar P w K mg base aK 2 f fd ["found"] Kl:=by
 have r:ar P w K mg base aK 1 c d ["found"] DA:=Kk Fw B;refine F.ok PZ (fun vs H Q E h=>?_) (fun u A outer s H vs Q E hr h=>?_)
 ·obtain⟨l,ns,rfl,_⟩:=h;rfl
 ·obtain⟨l,ns,rfl,b,hz,k⟩:=h
  refine⟨_,zg (zq (kf (zi M4 rfl B.isinstance zG (af (pv 0) (af (xh (v:=.ty "list") rfl B.list Kj rfl) ah))) (mK (zi (nq rfl) rfl B.all nI (af
   (zx ["found"] ["number"] [none] (zF (pv 0)) (fun e C s₀ H₀ ex=>zl (i:=0) (bF ["number"]) rfl (Or.inl rfl)) (fun e C s₀ H₀ ex=>zA) (fun e C s₀ H₀ ex=>zf r hr rfl p Fw.kp o .nil ak (af (pv 0) ah)) (te:=fY DA [] E0 (zO (aw 0) bL)) (hfr:=cU δ)) ah))))),?_⟩
  refine⟨_,rfl,l,_,rfl,b,_,rfl,aW ⟨_,rfl,l,rfl,⟨_,SqL.of b⟩,fun D g=>?_⟩⟩;refine zy (PY (fun n H R h=>⟨_,rfl,n,rfl,h⟩) b hz g fun q j a=>⟨D,_,rfl,SqL.of a,?_⟩);rw[PV];exact k q j
end
def Gz(st:List Int)(i j:Nat):Int:=if i=j/\i<st.length then vc st i else 0
def Km(F:Ξ)(st:List Int)(k w:Nat):Bool:=(Ah k).all fun i=>(Ah w).all fun j=>decide (fn F i j=Gz st i j)
def GB{tb:Ξ}{w:Nat}(h:∀r∈tb,r.length=w)(a:tb.length=0->w=0):wid tb=w:=by
 cases e:tb with
 |nil=>rw[e] at a;exact(a rfl).symm
 |cons x l=>exact h x (by rw[e];exact At ..)
section
variable{P:Program}{w:World}{K:Af}{mg:Str->Option Value}{base:Heap}
def Ko{H2:Hp}{L D:Addr}{ns:List Int}{Q:VK}{p:Int->Bool}{tc:TT}{c:List (Option V)}(g:∀(x:Int)(H:Hp)(R:Bool->Hp->Prop),x∈ns->R (p x) H->tc (some (.int x)::c) H R)(h:H2 L=some (.lst (ns.map V.int)))(hz:ns.length<=1000)(f:H2 D=none)(k:∀b,Same H2 b->b D=some (.lst ((ns.filter p).map V.int))->Q (.ref D) b):cm (dS K L) (zH 0) tc (aw 0) (none::c) H2 D Q:=by
 refine zY (xs:=ns.map V.int) (fun j σ ys b=>∃(v:Option V),σ=v::c/\Same H2 b/\b D=some (.lst ys)/\ys=((ns.take j).filter p).map V.int) ⟨none,rfl,Same.new f,za,rfl⟩ ?_ ?_ ?_
 ·rintro j σ ys b ⟨v,rfl,sm,a,rfl⟩
  exact SqL.of (sm _ _ h)
 ·rintro j σ ys b x hx e hy ⟨v,rfl,sm,a,rfl⟩
  obtain⟨y,d,rfl⟩:=eV hx;have hn:(ns.map V.int).length<=sizeLine:=by rw[Aa];exact zp ω
  refine g y b _ (Am d) ?_;cases hp:p y with
  |true=>
   refine aW ⟨_,rfl,bB hn e hy a ⟨_,rfl,sm.then f,za,?_⟩⟩;rw[A8 d,List.filter_append,Aq];simp[hp]
  |false=>
   refine aR (gC e hy ⟨_,rfl,sm,a,?_⟩);rw[A8 d,List.filter_append];simp[hp]
 ·rintro σ ys b ⟨v,rfl,sm,a,rfl⟩
  rw[Aa,An (Ae _)] at a;exact k b sm a
def P4{H2:Hp}{D:Addr}{lo:Int}{n:Nat}{Q:VK}{p:Nat->Bool}{tc:TT}{c:List (Option V)}(g:∀(i:Nat)(H:Hp)(R:Bool->Hp->Prop),i<n->Same H2 H->R (p i) H->tc (some (.int (lo+i))::c) H R)(hz:n<=1000)(f:H2 D=none)(k:∀b,Same H2 b->b D=some (.lst (((Ah n).filter p).map fun i:Nat=>V.int (lo+i)))->Q (.ref D) b):cm (eY lo n) (zH 0) tc (aw 0) (none::c) H2 D Q:=by
 refine nu (fun j σ ys b=>∃(v:Option V),σ=v::c/\Same H2 b/\b D=some (.lst ys)/\ys=(((Ah n).take j).filter p).map fun i:Nat=>V.int (lo+i)) ⟨none,rfl,Same.new f,za,rfl⟩ ?_ ?_
 ·rintro j σ ys b d hy ⟨v,rfl,sm,a,rfl⟩
  have e:(Ah n)[j]?=some j:=AQ d;refine g j b _ d sm ?_;cases hp:p j with
  |true=>
   refine aW ⟨_,rfl,bB (zp ω) d hy a ⟨_,rfl,sm.then f,za,?_⟩⟩;rw[A8 e,List.filter_append,Aq];simp[hp]
  |false=>
   refine aR (gC d hy ⟨_,rfl,sm,a,?_⟩);rw[A8 e,List.filter_append];simp[hp]
 ·rintro σ ys b ⟨v,rfl,sm,a,rfl⟩
  rw[An (by simp)] at a;exact k b sm a
end
def fo{e:Type}(a b c d:e):Nat->e
 |0=>a
 |1=>b
 |2=>c
 |_=>d
def GC{i:Nat}(h:i<4):i=0\/i=1\/i=2\/i=3:=ω
def Dj.symm{x y:List Addr}(h:Dj x y):Dj y x:=fun a c b hb e=>h b hb a c e.symm
section
variable{H H':Hp}{p:Addr}{u ub v vb:Ξ}{st:List Int}{a1 a2 a3 a4 a5:Addr}{d1 d2 d3 d4:List Addr}
def PapH.nt(h:PapH H H' p u ub v vb st a1 a2 a3 a4 a5 d1 d2 d3 d4)(i:Nat)(hi:i<4):NT H H' (fo a1 a2 a3 a4 i) (fo d1 d2 d3 d4 i) (fo u ub v vb i):=by
 obtain rfl|rfl|rfl|rfl:=GC hi
 ·exact h.n1
 ·exact h.n2
 ·exact h.n3
 ·exact h.n4
end
section
variable{P:Program}{w:World}{K:Af}{mg:Str->Option Value}{base:Heap}
abbrev P5(K:Af):List V->Hp->VK->Prop:=fun xs H Q=>∃p ys,xs=[.ref p]/\(SqL K H p ys\/SqT K H p ys)/\∀l,H l=none->Q (.ref l) (upd H l (.lst ys))
abbrev Kp(K:Af):TE:=mX (P5 K) (zO (aw 0) bL)
def P6{H2:Hp}{L D:Addr}{rs:List Addr}{tb:Ξ}{Q:VK}{c:List (Option V)}(b:SqL K H2 L (rs.map V.ref))(j:Rws H2 rs tb)(hz:tb.length<=1000)(p:H2 D=none)(k:∀a ds,Same H2 a->a D=some (.lst (ds.map V.ref))->Rws a ds tb->ds.Nodup->(∀d∈ds,H2 d=none/\d≠D)->Q (.ref D) a):cm (dS K L) (zH 0) bx (Kp K) (none::c) H2 D Q:=by
 refine nP (g:=fun r=>r) (fun o os H R sm f q h=>⟨_,rfl,o,_,rfl,.inl (SqL.of f),fun l b=>h l _ (Same.new b) b za⟩) b j hz p fun a ds sm e hr i hn=>?_;rw[List.map_id'] at hr;exact k a ds sm e hr i hn
end
def Kq{a b:Tb.Vc}:∀n,Tb.dot (n+1) a b=a 0*b 0+Tb.dot n (fun u=>a (u+1)) (fun u=>b (u+1))
 |0=>by show(0:Int)+a 0*b 0=a 0*b 0+0;(first|lia|omega)
 |n+1=>by
  show Tb.dot (n+1) a b+a (n+1)*b (n+1)=a 0*b 0+(Tb.dot n _ _+a (n+1)*b (n+1));rw[Kq n];(first|lia|omega)
def P7{st:List Int}{m:Int}(h1:(st.length:Int)<=m)(h2:∀x∈st,0<x)(d:∀i,i+1<st.length->vc st i ∣ vc st (i+1)):eB st m=true:=by
 unfold eB;rw[decide_eq_false ω,List.all_eq_true.mpr fun x hx=>decide_eq_true (h2 x hx)];show(AH (fun a b=>decide (b%a=0)) st (st.drop 1)).all id=true;rw[AY];intro x hx;obtain⟨i,hi,rfl⟩:=Bg hx;have c:i+1<st.length:=by rw[AF,List.length_drop] at hi;(first|lia|omega)
 rw[A7,List.getElem_drop];have:=d i c;rw[lw ω,lw c] at this;refine decide_eq_true ?_;have e:st[1+i]'ω=st[i+1]:=by congr 1;(first|lia|omega)
 rw[e];exact Int.emod_eq_zero_of_dvd this
def P8{st:List Int}{k w i j:Nat}(hi:i<k)(a:j<w):fn (slpT st k w) i j=if i=j/\i<st.length then vc st i else 0:=by
 unfold fn slpT;rw[vr hi];unfold bM vc
 by_cases c:i<st.length
 ·rw[if_pos c,Ab,List.getElem?_set]
  by_cases d:i=j
  ·rw[if_pos d,if_pos (show i<(Au w (0:Int)).length by rw[List.length_replicate];(first|lia|omega)),if_pos (And.intro d c)];rfl
  ·rw[if_neg d,if_neg fun h=>d h.1,List.getElem?_replicate,if_pos a];rfl
 ·rw[if_neg c,if_neg fun h=>c h.2,Ab,List.getElem?_replicate,if_pos a];rfl
def P9{st:List Int}{k w:Nat}:∀r∈slpT st k w,r.length=w:=fun r hr=>by
 unfold slpT at hr;obtain⟨i,_,rfl⟩:=List.mem_map.mp hr;exact JP
section
variable{k w:Nat}{tb u ub v vb:Ξ}{st:List Int}
end
def wn:Good 6 3 10:=⟨ξ,ξ,ξ,ξ,ξ,ξ⟩
def P_{tb:Ξ}{m:Int}{q:Nat}(h:∀r∈tb,Bnd m r)(a:m<=(2 ^ q:Nat)):Ent tb (2 ^ q):=fun i u=>by
 unfold fn
 by_cases c:i<tb.length
 ·have hr:=h _ (zB c)
  by_cases d:u<(rowAt tb i).length
  ·rw[lw d]
   have:=hr _ (AI d);(first|lia|omega)
  ·rw[f_ ω];exact AB _
 ·rw[uT ω];exact AB _
def wo(tb:Ξ):Prop:=∃N n m,lH N n m tb.length (wid tb) tb
def P'{tb:Ξ}{N n m c:Nat}{b:Int}(g:Good N n m)(hr:∀r∈tb,r.length=c/\Bnd b r)(f:tb.length<=N)(hc:c<=N)(hb:b<=(2 ^ m:Nat)):cy tb=true/\wo tb/\Sm9 tb:=by
 have i:=g.N40;have a:(∀r∈tb,r.length=wid tb)/\wid tb<=N:=by
  cases e:tb with
  |nil=>exact⟨fun r hr=>(by cases hr),AB _⟩
  |cons x l=>
   rw[e] at hr;have e1:wid (x::l)=x.length:=rfl;rw[e1,(hr x (At ..)).1];exact⟨fun r h=>(hr r h).1,hc⟩
 have d:=P_ (fun r h=>(hr r h).2) hb;refine⟨?_,⟨N,n,m,g,rfl,a.1,d,f,a.2⟩,fun r hr x hx=>Ag (d.mem r hr x hx) (AA ξ g.m9)⟩;unfold cy;rw[decide_eq_true (show tb.length<=40 from ω),decide_eq_true (show wid tb<=40 from ω)];simp only[Bool.and_self,Bool.true_and,AY];exact fun r h=>decide_eq_true (a.1 r h)
end K22
end
section
namespace Tb
def Eqv(k w:Nat)(A a:Nat->Vc):Prop:=∃R C:Nat->Vc,∀s t,s<k->t<w->A s t=aP k w a (R s) (C t)
def Qa{k i:Nat}{g:Vc}(h:i<k):dot k g (un i)=g i:=by rw[eM,C3 h]
def Eqv.refl{k w:Nat}{A:Nat->Vc}:Eqv k w A A:=⟨un,un,fun s t a b=>(C4 a b).symm⟩
def Eqv.trans{k w:Nat}{A B C:Nat->Vc}(h:Eqv k w A B)(g:Eqv k w B C):Eqv k w A C:=by
 obtain⟨R,S,h⟩:=h;obtain⟨R',c,g⟩:=g;refine⟨fun s a=>dot k (R s) (fun i=>R' i a),fun t b=>dot w (S t) (fun j=>c j b),fun s t d f=>?_⟩;rw[h s t d f,Dq];unfold aP;refine zn fun i hi=>?_;have e:dot w (B i) (S t)=dot w (S t) (fun j=>aP k w C (R' i) (c j)):=by
  rw[eM];exact zn fun j l=>g i j hi l
 rw[e,<-Dr (V:=fun j b=>c j b)]
 rfl
def Eqv.rows{k w:Nat}{A c:Nat->Vc}{R:Nat->Vc}(h:∀s t,s<k->t<w->A s t=dot k (R s) (fun a=>c a t)):Eqv k w A c:=
 ⟨R,un,fun s t d b=>by
  rw[h s t d b];unfold aP;exact zn fun a _=>(Qa b).symm⟩
def Eqv.at_{k w:Nat}{A a:Nat->Vc}{σ τ:Nat->Nat}(b:∀s,s<k->σ s<k)(c:∀t,t<w->τ t<w)(h:∀s t,s<k->t<w->A s t=a (σ s) (τ t)):Eqv k w A a:=
 ⟨fun s=>un (σ s),fun t=>un (τ t),fun s t h1 h2=>by rw[C4 (b s h1) (c t h2)];exact h s t h1 h2⟩
def Qb{k w:Nat}{A:Nat->Vc}{x y:Vc}:aP w k (fun i j=>A j i) y x=aP k w A x y:=by
 unfold aP;have e:dot w y (fun s=>dot k (fun j=>A j s) x)=dot w (fun s=>dot k x (fun j=>A j s)) y:=by
  rw[eM];exact zE fun s _=>eM k
 rw[e,oI]
def Eqv.tr{k w:Nat}{A a:Nat->Vc}(h:Eqv k w A a):Eqv w k (fun i j=>A j i) (fun i j=>a j i):=by
 obtain⟨R,S,h⟩:=h;exact⟨S,R,fun s t b c=>by rw[Qb];exact h t s c b⟩
def Eqv.set{k w a:Nat}{A:Nat->Vc}{r:Vc}{R:Vc}(e:a<k)(h:∀t,t<w->r t=dot k R (fun i=>A i t)):Eqv k w (fun s=>if s=a then r else A s) A:=
 .rows (R:=fun s=>if s=a then R else un s) fun s t b d=>by
  by_cases c:s=a
  ·simp only[if_pos c];exact h t d
  ·simp only[if_neg c];exact(C3 (g:=fun a=>A a t) b).symm
def Eqv.congr{k w:Nat}{A B c d:Nat->Vc}(h:Eqv k w A B)(h1:∀s t,s<k->t<w->c s t=A s t)(h2:∀s t,s<k->t<w->B s t=d s t):Eqv k w c d:=by
 obtain⟨R,C,h⟩:=h;refine⟨R,C,fun s t a b=>?_⟩;rw[h1 s t a b,h s t a b];unfold aP;exact zn fun i hi=>zE fun j e=>h2 i j hi e
def inP(n p i:Nat):Nat:=if i<p then i else if i=p then n else i-1
def sq2(X Y:Vc)(a b:Nat):Int:=X a*Y b-X b*Y a
def ck(X Y Z:Vc)(a b c:Nat):Int:=X a*sq2 Y Z b c-X b*sq2 Y Z a c+X c*sq2 Y Z a b
def M1(g:Int)(k w:Nat)(A:Nat->Vc):Prop:=∀i a,i<k->a<w->g ∣ A i a
def M2(g:Int)(k w:Nat)(A:Nat->Vc):Prop:=∀i j a b,i<k->j<k->a<w->b<w->g ∣ sq2 (A i) (A j) a b
def M3(g:Int)(k w:Nat)(A:Nat->Vc):Prop:=∀i j l a b c,i<k->j<k->l<k->a<w->b<w->c<w->g ∣ ck (A i) (A j) (A l) a b c
def Qc{k:Nat}{R f f':Vc}{x y:Int}:x*dot k R f+y*dot k R f'=dot k R (fun i=>x*f i+y*f' i):=by
 induction k with
 |zero=>show x*0+y*0=0;(first|lia|omega)
 |succ k ih=>
  show x*(dot k R f+R k*f k)+y*(dot k R f'+R k*f' k)=dot k R _+R k*(x*f k+y*f' k);rw[<-ih];grind
def Qd{k:Nat}{R f f' f'':Vc}{x y z:Int}:x*dot k R f+y*dot k R f'+z*dot k R f''=dot k R (fun i=>x*f i+y*f' i+z*f'' i):=by
 induction k with
 |zero=>show x*0+y*0+z*0=0;(first|lia|omega)
 |succ k ih=>
  show x*(dot k R f+R k*f k)+y*(dot k R f'+R k*f' k)+z*(dot k R f''+R k*f'' k)=dot k R _+R k*(x*f k+y*f' k+z*f'' k);rw[<-ih];grind
section
variable{g:Int}{k w n:Nat}{A C R:Nat->Vc}
def Ks{X Y:Vc}{Q:Vc}{a b:Nat}(c:X a=dot k Q (fun i=>C i a))(hb:X b=dot k Q (fun i=>C i b))(h:∀i,i<k->g ∣ sq2 (C i) Y a b):g ∣ sq2 X Y a b:=by
 have e:sq2 X Y a b=dot k Q (fun i=>sq2 (C i) Y a b):=by
  show X a*Y b-X b*Y a=_;rw[c,hb];have:=Qc (k:=k) (R:=Q) (f:=fun i=>C i a) (f':=fun i=>C i b) (x:=Y b) (y:=- Y a);rw[show dot k Q (fun i=>C i a)*Y b-dot k Q (fun i=>C i b)*Y a=Y b*dot k Q (fun i=>C i a)+- Y a*dot k Q (fun i=>C i b) by grind,this];exact zn fun i _=>by unfold sq2;grind
 rw[e];exact Dn h
def GE{X Y Z:Vc}{Q:Vc}{a b c:Nat}(d:X a=dot k Q (fun i=>C i a))(hb:X b=dot k Q (fun i=>C i b))(hc:X c=dot k Q (fun i=>C i c))(h:∀i,i<k->g ∣ ck (C i) Y Z a b c):g ∣ ck X Y Z a b c:=by
 have e:ck X Y Z a b c=dot k Q (fun i=>ck (C i) Y Z a b c):=by
  show X a*sq2 Y Z b c-X b*sq2 Y Z a c+X c*sq2 Y Z a b=_;rw[d,hb,hc];have:=Qd (k:=k) (R:=Q) (f:=fun i=>C i a) (f':=fun i=>C i b) (f'':=fun i=>C i c) (x:=sq2 Y Z b c) (y:=- sq2 Y Z a c) (z:=sq2 Y Z a b);rw[show dot k Q (fun i=>C i a)*sq2 Y Z b c-dot k Q (fun i=>C i b)*sq2 Y Z a c+dot k Q (fun i=>C i c)*sq2 Y Z a b=sq2 Y Z b c*dot k Q (fun i=>C i a)+- sq2 Y Z a c*dot k Q (fun i=>C i b)+sq2 Y Z a b*dot k Q (fun i=>C i c) by grind,this];exact zn fun i _=>by unfold ck;grind
 rw[e];exact Dn h
def Kt{X Y:Vc}{a b:Nat}:sq2 X Y a b=- sq2 Y X a b:=by unfold sq2;grind
def Ku{X Y Z:Vc}{a b c:Nat}:ck X Y Z a b c=ck Z X Y a b c:=by unfold ck sq2;grind
def Qe{i j a b:Nat}:sq2 (fun t=>A t i) (fun t=>A t j) a b=sq2 (A a) (A b) i j:=by unfold sq2;grind
def GF{i j l a b c:Nat}:ck (fun t=>A t i) (fun t=>A t j) (fun t=>A t l) a b c=ck (A a) (A b) (A c) i j l:=by unfold ck sq2;grind
def M1.row(h:M1 g k w C)(e:∀s t,s<n->t<w->A s t=dot k (R s) (fun i=>C i t)):M1 g n w A:=fun i a hi b=>by rw[e i a hi b];exact Dn fun t c=>h t a c b
def M2.row(h:M2 g k w C)(e:∀s t,s<n->t<w->A s t=dot k (R s) (fun i=>C i t)):M2 g n w A:=fun i j a b hi d c hb=>
 Ks (C:=C) (e i a hi c) (e i b hi hb) fun p hp=>by
  rw[Kt];exact Int.dvd_neg.mpr (Ks (C:=C) (e j a d c) (e j b d hb) fun q hq=>h q p a b hq hp c hb)
def M3.row(h:M3 g k w C)(e:∀s t,s<n->t<w->A s t=dot k (R s) (fun i=>C i t)):M3 g n w A:=fun i j l a b c hi f o d hb hc=>
 GE (C:=C) (e i a hi d) (e i b hi hb) (e i c hi hc) fun p hp=>by
  rw[Ku];refine GE (C:=C) (e l a o d) (e l b o hb) (e l c o hc) fun q hq=>?_;rw[Ku];refine GE (C:=C) (e j a f d) (e j b f hb) (e j c f hc) fun r hr=>?_;exact h r q p a b c hr hq hp d hb hc
def M1.tr(h:M1 g k w A):M1 g w k (fun i j=>A j i):=fun i a hi b=>h a i b hi
def M2.tr(h:M2 g k w A):M2 g w k (fun i j=>A j i):=fun i j a b hi c d hb=>by
 show g ∣ sq2 (fun t=>A t i) (fun t=>A t j) a b;rw[Qe];exact h a b i j d hb hi c
def M3.tr(h:M3 g k w A):M3 g w k (fun i j=>A j i):=fun i j l a b c hi d e f hb hc=>by
 show g ∣ ck (fun t=>A t i) (fun t=>A t j) (fun t=>A t l) a b c;rw[GF];exact h a b c i j l f hb hc hi d e
def Eqv.two{B:Nat->Vc}(h:Eqv k w A B):∃(R S C:Nat->Vc),(∀s t,s<k->t<w->A s t=dot k (R s) (fun i=>C i t))/\∀t i,t<w->i<k->C i t=dot w (S t) (fun u=>B i u):=by
 obtain⟨R,S,h⟩:=h;exact⟨R,S,fun i t=>dot w (B i) (S t),fun s t b a=>h s t b a,fun t i a hi=>eM w⟩
def Eqv.m1{B:Nat->Vc}(h:Eqv k w A B)(m:M1 g k w B):M1 g k w A:=by
 obtain⟨R,S,C,e1,e2⟩:=h.two;exact(m.tr.row (A:=fun t i=>C i t) (R:=S) e2).tr.row e1
def Eqv.m2{B:Nat->Vc}(h:Eqv k w A B)(m:M2 g k w B):M2 g k w A:=by
 obtain⟨R,S,C,e1,e2⟩:=h.two;exact(m.tr.row (A:=fun t i=>C i t) (R:=S) e2).tr.row e1
def Eqv.m3{B:Nat->Vc}(h:Eqv k w A B)(m:M3 g k w B):M3 g k w A:=by
 obtain⟨R,S,C,e1,e2⟩:=h.two;exact(m.tr.row (A:=fun t i=>C i t) (R:=S) e2).tr.row e1
end
def cp(s:Nat->Int):Nat->Vc:=fun i j=>if i=j then s i else 0
section
variable{g:Int}{k w:Nat}{A:Nat->Vc}{s:Nat->Int}
def o7(h:∀i,s i ∣ s (i+1))(i:Nat):∀j,i<=j->s i ∣ s j
 |0,e=>by rw[show i=0 from ω];exact Int.dvd_refl _
 |j+1,e=>by
  by_cases c:i=j+1
  ·rw[c];exact Int.dvd_refl _
  ·exact Int.dvd_trans (o7 h i j ω) (h j)
def GG(h:∀i,s i ∣ s (i+1)):M1 (s 0) k w (cp s):=fun i a _ _=>by
 unfold cp
 by_cases c:i=a
 ·rw[if_pos c];exact o7 h 0 i ω
 ·rw[if_neg c];exact Int.dvd_zero _
def jG(h:∀i,s i ∣ s (i+1)){i j:Nat}(c:i≠j):s 0*s 1 ∣ s i*s j:=by
 by_cases d:i<j
 ·exact Int.mul_dvd_mul (o7 h 0 i ω) (o7 h 1 j ω)
 ·rw[Bj (s i)];exact Int.mul_dvd_mul (o7 h 0 j ω) (o7 h 1 i ω)
def Kv(h:∀i,s i ∣ s (i+1)){i j a b:Nat}(c:i≠j):s 0*s 1 ∣ cp s i a*cp s j b:=by
 unfold cp
 by_cases d:i=a
 ·by_cases e:j=b
  ·rw[if_pos d,if_pos e];exact jG h c
  ·rw[if_neg e,Bi];exact Int.dvd_zero _
 ·rw[if_neg d,Int.zero_mul];exact Int.dvd_zero _
def GH(h:∀i,s i ∣ s (i+1)):M2 (s 0*s 1) k w (cp s):=fun i j a b _ _ _ _=>by
 unfold sq2
 by_cases c:i=j
 ·rw[c,show cp s j a*cp s j b-cp s j b*cp s j a=0 by grind];exact Int.dvd_zero _
 ·exact Int.dvd_sub (Kv h c) (Kv h c)
def three{i:Nat}(h:i<3):i=0\/i=1\/i=2:=ω
def Kw{i j l a b c:Nat}(hi:i<3)(d:j<3)(f:l<3):∃e,ck (A i) (A j) (A l) a b c=e*ck (A 0) (A 1) (A 2) a b c:=by
 rcases three hi with rfl|rfl|rfl<;>rcases three d with rfl|rfl|rfl<;>rcases three f with rfl|rfl|rfl
 all_goals first
  |exact⟨0,by unfold ck sq2;grind⟩
  |exact⟨1,by unfold ck sq2;grind⟩
  |exact⟨-1,by unfold ck sq2;grind⟩
def Qf{i j l a b c:Nat}(hi:i<3)(g:j<3)(o:l<3)(p:a<3)(hb:b<3)(hc:c<3):ck (A 0) (A 1) (A 2) 0 1 2 ∣ ck (A i) (A j) (A l) a b c:=by
 obtain⟨e,h⟩:=Kw (A:=A) (a:=a) (b:=b) (c:=c) hi g o;obtain⟨f,h'⟩:=Kw (A:=fun i j=>A j i) (a:=0) (b:=1) (c:=2) p hb hc;have d:ck (fun j=>A j a) (fun j=>A j b) (fun j=>A j c) 0 1 2=f*ck (fun j=>A j 0) (fun j=>A j 1) (fun j=>A j 2) 0 1 2:=h';rw[GF,GF] at d;rw[h,d,<-AR];exact Int.dvd_mul_left _ _
def M3.of(h:g ∣ ck (A 0) (A 1) (A 2) 0 1 2):M3 g 3 3 A:=fun i j l a b c hi d e f hb hc=>Int.dvd_trans h (Qf hi d e f hb hc)
def Qg:sq2 (cp s 0) (cp s 1) 0 1=s 0*s 1:=by simp[sq2,cp]
def Kx:ck (cp s 0) (cp s 1) (cp s 2) 0 1 2=s 0*(s 1*s 2):=by simp[ck,sq2,cp]
def lX(h1:Eqv k w A (cp s))(h2:Eqv k w (cp s) A)(a:∀i,s i ∣ s (i+1))(p:∀i,0<=s i)(hk:1<=k)(hw:1<=w)(b:0<=g)(m:M1 g k w A)(u:∀h,M1 h k w A->h ∣ g):g=s 0:=by
 have e:=h2.m1 m 0 0 ω ω;rw[show cp s 0 0=s 0 from if_pos rfl] at e;exact Int.dvd_antisymm b (p 0) e (u _ (h1.m1 (GG a)))
def l6(h1:Eqv k w A (cp s))(h2:Eqv k w (cp s) A)(a:∀i,s i ∣ s (i+1))(p:∀i,0<=s i)(hk:2<=k)(hw:2<=w)(b:0<=g)(m:M2 g k w A)(u:∀h,M2 h k w A->h ∣ g):g=s 0*s 1:=by
 have e:=h2.m2 m 0 1 0 1 ω ω ω ω;rw[Qg] at e;exact Int.dvd_antisymm b (Int.mul_nonneg (p 0) (p 1)) e (u _ (h1.m2 (GH a)))
def ma(h1:Eqv 3 3 A (cp s))(h2:Eqv 3 3 (cp s) A)(b:∀i,s i ∣ s (i+1))(p:∀i,0<=s i)(a:0<=g)(m:g ∣ ck (A 0) (A 1) (A 2) 0 1 2)(u:∀h,h ∣ ck (A 0) (A 1) (A 2) 0 1 2->h ∣ g):g=s 0*(s 1*s 2):=by
 have e:=h2.m3 (M3.of m) 0 1 2 0 1 2 ω ω ω ω ω ω;rw[Kx] at e;refine Int.dvd_antisymm a (Int.mul_nonneg (p 0) (Int.mul_nonneg (p 1) (p 2))) e (u _ ?_);exact h1.m3 (M3.of (by rw[Kx];exact Int.dvd_refl _)) 0 1 2 0 1 2 ω ω ω ω ω ω
def M2.of(h:∀i j a b,i<j->j<k->a<b->b<w->g ∣ sq2 (A i) (A j) a b):M2 g k w A:=by
 have z:∀i j a b,i<j->j<k->a<w->b<w->g ∣ sq2 (A i) (A j) a b:=fun i j a b hi e f hb=>by
  by_cases c:a=b
  ·rw[c,show sq2 (A i) (A j) b b=0 by unfold sq2;grind];exact Int.dvd_zero _
  by_cases d:a<b
  ·exact h i j a b hi e d hb
  ·rw[show sq2 (A i) (A j) a b=- sq2 (A i) (A j) b a by unfold sq2;grind]
   exact Int.dvd_neg.mpr (h i j b a hi e ω f)
 intro i j a b hi e f hb
 by_cases c:i=j
 ·rw[c,show sq2 (A j) (A j) a b=0 by unfold sq2;grind];exact Int.dvd_zero _
 by_cases d:i<j
 ·exact z i j a b d e f hb
 ·rw[Kt];exact Int.dvd_neg.mpr (z j i a b ω hi f hb)
def Eqv.back{D:Nat->Vc}{u ub v vb:Nat->Vc}(hu:∀i j,i<k->j<k->dot k (ub i) (fun s=>u s j)=dl i j)(p:∀i j,i<w->j<w->dot w (v i) (fun s=>vb s j)=dl i j)(h:∀i j,i<k->j<w->aP k w A (u i) (fun s=>v s j)=D i j):Eqv k w A D:=by
 refine⟨ub,fun t l=>vb l t,fun s t d f=>?_⟩;have e1:aP k w D (ub s) (fun l=>vb l t)=aP k w A (fun a=>dot k (ub s) (fun i=>u i a)) (fun b=>dot w (fun l=>vb l t) (fun j=>v b j)):=by
  rw[Dq];unfold aP;refine zn fun i hi=>?_;have e:dot w (D i) (fun l=>vb l t)=dot w (fun l=>vb l t) (fun j=>aP k w A (u i) (fun s=>v s j)):=by
   rw[eM];exact zn fun j g=>(h i j hi g).symm
  rw[e,<-Dr (V:=fun j b=>v b j)]
  rfl
 have e2:aP k w A (fun a=>dot k (ub s) (fun i=>u i a)) (fun b=>dot w (fun l=>vb l t) (fun j=>v b j))=aP k w A (un s) (un t):=by
  unfold aP;rw[zE (a':=un s) (fun a o=>hu s a d o)];refine zn fun a _=>zn fun b hb=>?_;rw[eM,p b t hb f];unfold un dl
  by_cases c:b=t
  ·rw[if_pos c,if_pos c.symm]
  ·rw[if_neg c,if_neg (Ne.symm c)]
 rw[e1,e2,C4 d f]
end
end Tb
end
section
namespace K22
open PySem L2
abbrev DD:Stmt:=top 54
def Ky:A4 "abs"=some (.builtin "abs"):=δ
section
variable{P:Program}{w:World}{K:Af}{mg:Str->Option Value}{base:Heap}
def Kz:Sp:=fun vs H Q _=>∃x y:Int,vs=[.int x,.int y]/\∀H',Same H H'->Q (.int (Int.gcd x y:Nat)) H'
def DE:zm ["one","other"] ["one","other"] (ze DD):=⟨rfl,rfl,rfl,δ,rfl,δ,δ⟩
def KA{x:Int}:(if x<0 then -x else x)=(x.natAbs:Int):=by split<;>(first|lia|omega)
def Qh{f:Addr}{fd:FuncData}(F:Fun K "_law_common" "_law_common" DD f fd)(p:mg "abs"=none):ar P w K mg base aK 1 f fd ["one","other"] Kz:=by
 refine F.ok DE (fun vs H Q E h=>?_) (fun q A outer s H vs Q E hr h=>?_)
 ·obtain⟨x,y,rfl,_⟩:=h;rfl
 ·obtain⟨x,y,rfl,k⟩:=h
  refine⟨_,zb (zj (i:=0) DE.nd rfl (Or.inl rfl) (zi G2 rfl p Ky (af (pv 0) ah)))
   (zb (zj (i:=1) DE.nd rfl (Or.inl rfl) (zi G2 rfl p Ky (af (pv 1) ah)))
   (zb (pQ A0 (zw iV (pv 1) zd (av _)) (zg (Lx (i:=0) (j:=1) rfl DE.nd rfl rfl ξ rfl rfl (af (pv 1) (af (zt fT (pv 0) (pv 1)) ah)) rfl)))
   (zg (zq (pv 0))))),?_⟩
  refine⟨_,rfl,x,rfl,_,rfl,y,rfl,?_⟩;rw[KA,KA];refine⟨fun n σ d=>∃(a b:Nat),n=b/\σ=[some (.int (a:Int)),some (.int (b:Int))]/\Same H d/\Nat.gcd a b=Int.gcd x y,⟨_,x.natAbs,y.natAbs,rfl,rfl,.refl _,rfl⟩,?_⟩;rintro n σ d ⟨a,b,rfl,rfl,sm,g⟩;refine⟨_,rfl,_,_,rfl,rfl,_,rfl,?_⟩
  by_cases c:0<n
  ·rw[decide_eq_true (show(0:Int)<(n:Int) from ω)]
   refine aW ⟨fun l H'=>∃o,o<n/\∃(a b:Nat),o=b/\l=[some (.int (a:Int)),some (.int (b:Int))]/\Same H H'/\Nat.gcd a b=Int.gcd x y,fun l H' h=>h,?_⟩;refine⟨_,rfl,_,rfl,_,rfl,_,_,rfl,rfl,(show(0:Int)<(n:Int) from ω),_,_,rfl,a%n,Nat.mod_lt _ c,n,a%n,rfl,rfl,sm,?_⟩;rw[Nat.gcd_comm,<-g,Nat.gcd_comm a n,Nat.gcd_rec n a]
  ·rw[decide_eq_false (show ¬(0:Int)<(n:Int) from ω)]
   have e:n=0:=ω
   subst e;rw[Nat.gcd_zero_right] at g;refine aR ⟨_,rfl,?_⟩;rw[g];exact k d sm
end
abbrev h5:Stmt:=top 55
def minr(k:Nat)(tb:Ξ):Ξ:=tb.map fun r=>r.take k++r.drop (k+1)
def sgn(k:Nat):Int:=if k%2=0 then 1 else -1
def c4(g:Nat->Int):Nat->Int
 |0=>0
 |m+1=>c4 g m+g m
def det:Nat->List (List Int)->Int
 |0,_=>1
 |n+1,tb=>c4 (fun k=>sgn k*vc (rowAt tb 0) k*det n (minr k (tb.drop 1))) (n+1)
def Qi(k:Nat):sgn (k+1)=- sgn k:=by unfold sgn;split<;>split<;>(first|lia|omega)
def DF(k:Nat):(sgn k).natAbs=1:=by unfold sgn;split<;>rfl
def Qj{n k:Nat}{tb:Ξ}{M:Int}(h:∀r∈tb,r.length=n+1/\Bnd M r)(hk:k<n+1):∀r∈minr k tb,r.length=n/\Bnd M r:=fun r hr=>by
 obtain⟨q,hq,rfl⟩:=List.mem_map.mp hr;obtain⟨l,b⟩:=h q hq;refine⟨by rw[AJ,List.length_take,List.length_drop];(first|lia|omega),fun x hx=>?_⟩;rcases List.mem_append.mp hx with z|z
 ·exact b x (List.mem_of_mem_take z)
 ·exact b x (List.mem_of_mem_drop z)
def DG{ns:List Int}{M:Nat}(h:Bnd (M:Int) ns)(k:Nat):(vc ns k).natAbs<=M:=by
 unfold vc;rw[Ab];cases e:ns[k]? with
 |none=>exact AB _
 |some y=>have:=h y (Am e);show y.natAbs<=M;(first|lia|omega)
def KB{g:Nat->Int}{B:Nat}(h:∀k,(g k).natAbs<=B):∀m,(c4 g m).natAbs<=m*B
 |0=>by show(0:Int).natAbs<=0*B;simp
 |m+1=>by
  show(c4 g m+g m).natAbs<=(m+1)*B;have h1:=KB h m;have h2:=h m;have a:=Int.natAbs_add_le (c4 g m) (g m);rw[Nat.add_mul,Nat.one_mul];(first|lia|omega)
def DH{tb:Ξ}{M:Int}(h:∀r∈tb,Bnd M r)(i:Nat):Bnd M (rowAt tb i):=by
 unfold rowAt;rw[Ab];cases e:tb[i]? with
 |none=>intro x hx;cases hx
 |some r=>exact h r (Am e)
def GJ{k:Nat}{tb:Ξ}{M:Int}(h:∀r∈tb,Bnd M r):∀r∈minr k tb,Bnd M r:=fun r hr x hx=>by
 obtain⟨q,hq,rfl⟩:=List.mem_map.mp hr;rcases List.mem_append.mp hx with z|z
 ·exact h q hq x (List.mem_of_mem_take z)
 ·exact h q hq x (List.mem_of_mem_drop z)
def DI:∀(n:Nat){tb:Ξ},n<=3->(∀r∈tb,Bnd 1000 r)->(det n tb).natAbs<=10000 ^ n
 |0,_,_,_=>by show(1:Int).natAbs<=1;decide
 |n+1,tb,hn,h=>by
  have a:∀k,(det n (minr k (tb.drop 1))).natAbs<=10000 ^ n:=fun k=>DI n ω (GJ fun r hr=>h r (List.mem_of_mem_drop hr));have b:∀k,(sgn k*vc (rowAt tb 0) k*det n (minr k (tb.drop 1))).natAbs<=1000*10000 ^ n:=fun k=>by
   rw[AD,AD,DF,Nat.one_mul];exact AL (DG (M:=1000) (DH h 0) k) (a k)
  have:=KB b (n+1);show(c4 _ (n+1)).natAbs<=10000 ^ (n+1);refine Ag this ?_;rw[<-AN,Nat.pow_succ,Nat.mul_comm (10000 ^ n)];exact Al _ ω
def ws{a:Int}:det 1 [[a]]=a:=by simp[det,c4,sgn,minr,vc,rowAt]
def GK{a b c d:Int}:det 2 [[a,b],[c,d]]=a*d-b*c:=by simp[det,c4,sgn,minr,vc,rowAt];grind
def GL{a b c d e f g h i:Int}:det 3 [[a,b,c],[d,e,f],[g,h,i]]=a*(e*i-f*h)-b*(d*i-f*g)+c*(d*h-e*g):=by
 simp[det,c4,sgn,minr,vc,rowAt];grind
def Qk{H:Hp}{ds:List Addr}{tb:Ξ}(h:Rws H ds tb):∀n:Nat,Rws H (ds.drop n) (tb.drop n):=by
 induction h with
 |nil=>intro n;rw[List.drop_nil,List.drop_nil];exact .nil
 |cons a b ih=>
  intro n;cases n with
  |zero=>exact .cons a b
  |succ n=>exact ih n
section
variable{P:Program}{w:World}{K:Af}{mg:Str->Option Value}{base:Heap}
def KC{H:Hp}{W q:Addr}{ds:List Addr}{tb:Ξ}{Z:VK}{neg:Bool}(a:H W=some (.lst (ds.map V.ref)))(hr:Rws H ds tb)(hq:H q=none)(k:Z (.bl (if neg then !decide (tb=[]) else decide (tb=[]))) (upd H q (.lst []))):fO neg K (.ref W) (.ref q) (upd H q (.lst [])) Z:=by
 refine⟨cF tb,cF [],kb (SqL.of (by rw[ao (zk a hq)];exact a)) (hr.same (Same.new hq)),kb (rs:=[]) (SqL.of za) .nil,oN _,oN _,F' _ _,?_⟩;rw[Ds];exact k
abbrev KD:List Str:=["rows","total","sign","k","less_v"]
def Ql(n:Nat):Sp:=fun vs H Q _=>∃(L:Addr)(rs:List Addr)(tb:Ξ),vs=[.ref L]/\H L=some (.lst (rs.map V.ref))/\Rws H rs tb/\tb.length=n/\(∀r∈tb,r.length=n/\Bnd 1000 r)/\∀H',Same H H'->Q (.int (det n tb)) H'
def kd:zm KD ["rows"] (ze h5):=⟨rfl,rfl,rfl,δ,rfl,δ,δ⟩
def KF{i j:Int}{a b:Nat}(h1:i.natAbs<=a)(h2:j.natAbs<=b)(c:a<2 ^ 64)(hb:b<2 ^ 64):ey i j:=⟨64,64,Ax h1 c,Ax h2 hb,ξ⟩
def KG{f:Addr}{fd:FuncData}(F:Fun K "_law_determinant" "_law_determinant" h5 f fd)(B:gi mg)(b:Binds K fd ["rows"] [])(m:mg "_law_determinant"=some (.ref f)):∀n,n<=3->ar P w K mg base aK (n+1) f fd ["rows"] (Ql n)
 |0,_=>by
  refine F.ok kd (fun vs H Q E h=>?_) (fun ai A outer s H vs Q E hr h=>?_)
  ·obtain⟨L,rs,tb,rfl,_⟩:=h;rfl
  ·obtain⟨L,rs,tb,rfl,c,l,u,hw,k⟩:=h
   have J:=hr.units;have e:tb=[]:=List.length_eq_zero_iff.mp u;refine⟨_,zb (cT (zw (FX J) (pv 0) (zX ah) (av _)) (zg (zq zd)) zL) GV,?_⟩;refine⟨_,rfl,ξ,fun q hq=>KC c l hq ⟨_,rfl,?_⟩⟩;rw[if_neg ξ,decide_eq_true e];exact aW (k _ (Same.new hq))
 |n+1,hn=>by
  have G:=KG F B b m n ω;refine F.ok kd (fun vs H Q E h=>?_) (fun ai A outer s H vs Q E hr h=>?_)
  ·obtain⟨L,rs,tb,rfl,_⟩:=h;rfl
  ·obtain⟨L,rs,tb,rfl,c,l,u,hw,k⟩:=h
   have J:=hr.units;refine⟨_,zb (cT (zw (FX J) (pv 0) (zX ah) (av _)) (zg (zq zd)) zL)
    (zb (zj (i:=1) kd.nd rfl (Or.inl rfl) zd)
    (zb (zj (i:=2) kd.nd rfl (Or.inl rfl) zd)
    (zb (fh A0 rfl (kn rfl B.range (af (zi zo rfl B.len de (af (pv 0) ah)) ah)) (zl (i:=3) kd.nd rfl (Or.inr rfl))
     (zb (nH (i:=4) kd.nd rfl (Or.inl rfl) KD ["row","k"] [none,some 3] (zF (kC kG (pv 0) (ky zd) kx)) (fun T C s₀ H₀ ex=>zl (i:=0) (bF ["row","k"]) rfl (Or.inl rfl)) (fun T C s₀ H₀ ex=>zA)
      (fun T C s₀ H₀ ex=>zt m4 (kC kG (pv 0) kx (ky (pv 1))) (kC kG (pv 0) (ky (zt dU (pv 1) zd)) kx)) (te:=bI i0 (qy (gx K) (aw 0) qo (qx (aw 1))) (qy (gx K) (aw 0) (qx (bI (eO fun i j=>.int (i+j)) (aw 1) (tC (.int 1)))) qo)) (hfr:=a_ (ze h5) δ))
     (zb (zj (i:=1) kd.nd rfl (Or.inl rfl) (zt dU (pv 1) (zt nQ (zt nQ (pv 2) (zu zr (zu zr (pv 0) zd (fun _ _=>rfl)) (pv 3) (fun _ _=>rfl))) (zf G hr rfl m F.kp b .nil ak (af (pv 4) ah)))))
     (zg (zj (i:=2) kd.nd rfl (Or.inl rfl) (fS fU (pv 2)))))))
    (zg (zq (pv 1)))))),?_⟩
   have ne:tb≠[]:=fun e=>by rw[e] at u;cases u
   refine⟨_,rfl,ξ,fun q hq=>KC c l hq ⟨_,rfl,?_⟩⟩;rw[if_neg ξ,decide_eq_false ne];have sq:=Same.new (o:=.lst []) hq;have aZ:=l.len;refine aR ⟨_,rfl,L,_,rfl,.inl (SqL.of (sq _ _ c)),_,rfl,ω,by rw[Aa];(first|lia|omega),?_⟩;rw[Aa];have gk:∀j,(sgn j*vc (rowAt tb 0) j*det n (minr j (tb.drop 1))).natAbs<=1000*10000 ^ n:=fun j=>by
    rw[AD,AD,DF,Nat.one_mul];exact AL (DG (M:=1000) (DH (fun r hr=>(hw r hr).2) 0) j) (DI n ω (GJ fun r hr=>(hw r (List.mem_of_mem_drop hr)).2))
   refine xS (lo:=0) (n:=rs.length) (fun i σ H2=>∃(z I:Option V),σ=[some (.ref L),some (.int (c4 (fun k=>sgn k*vc (rowAt tb 0) k*det n (minr k (tb.drop 1))) i)),some (.int (sgn i)),z,I]/\Same H H2)
    ⟨none,none,rfl,sq⟩ ?_ ?_
   ·rintro i σ H2 hi ⟨z,I,rfl,sm⟩
    rw[show(0:Int)+((i:Nat):Int)=((i:Nat):Int) from ω];refine⟨_,rfl,_,rfl,L,_,rfl,SqL.of (sm _ _ c),fun C hC=>?_⟩;rw[show cI (rs.map V.ref) (some 1) none=(rs.drop 1).map V.ref by rw[show(1:Int)=((1:Nat):Int) from rfl,hA,List.map_drop]];have Z:=Same.new (o:=.lst ((rs.drop 1).map V.ref)) hC;refine⟨C,rfl,⟨_,SqL.of za⟩,fun D hD=>zy (nP (g:=fun r=>r.take i++r.drop (i+1)) (fun o os H' R s' U hm hR=>?_) (SqL.of za) (Qk ((l.same sm).same Z) 1) (by rw[List.length_drop];(first|lia|omega)) hD fun H3 ds s3 x y _ _=>?_)⟩
    ·have lo:=(hw os (List.mem_of_mem_drop hm)).1
     refine⟨_,rfl,_,rfl,_,rfl,o,_,rfl,SqL.of U,fun p1 h_=>?_⟩;rw[show cI (os.map V.int) none (some ((i:Nat):Int))=(os.take i).map V.int by rw[Jl,List.map_take]];have N:=Same.new (o:=.lst ((os.take i).map V.int)) h_;refine⟨_,rfl,_,rfl,_,_,rfl,rfl,_,rfl,o,_,rfl,SqL.of (N _ _ U),fun p2 cX=>?_⟩;rw[show cI (os.map V.int) (some (((i:Nat):Int)+1)) none=(os.drop (i+1)).map V.int by rw[show((i:Nat):Int)+1=((i+1:Nat):Int) from rfl,hA,List.map_drop]];have O:=Same.new (o:=.lst ((os.drop (i+1)).map V.int)) cX;refine⟨p1,p2,_,_,rfl,rfl,O _ _ za,za,zp (by simp;(first|lia|omega)),fun q' p=>?_⟩;rw[<-Aq];exact hR q' _ ((N.trans O).trans (Same.new p)) (N.free (O.free p)) za
    ·have S:Same H H3:=(sm.trans Z).trans s3
     obtain⟨W,X⟩:∃d,rs[0]?=some d:=⟨_,Ac (show 0<rs.length from ω)⟩;obtain⟨ns,Y,aB⟩:=l.get X;have rS:=(hw ns (Am Y)).1;have er:rowAt tb 0=ns:=by unfold rowAt;rw[Ab,Y];rfl
     have ev:ns[i]?=some (vc (rowAt tb 0) i):=by
      rw[er];unfold vc;rw[Ab,Ac (show i<ns.length from ω)];rfl
     have hp:=AA (show 0<10000 from ξ) (show n<=2 from ω);have hd:=DI n (tb:=minr i (tb.drop 1)) ω (GJ fun r hr=>(hw r (List.mem_of_mem_drop hr)).2);have hv:=DG (M:=1000) (DH (fun r hr=>(hw r hr).2) 0) i;refine⟨_,rfl,_,rfl,_,rfl,L,_,_,_,rfl,rfl,SqL.of (S _ _ c),zh (j:=0) (v:=V.ref W) (by rw[Aj,X];rfl),_,rfl,W,_,_,_,rfl,rfl,SqL.of (S _ _ aB),zh (j:=i) (v:=V.int (vc (rowAt tb 0) i)) (by rw[Aj,ev];rfl),_,_,rfl,rfl,KF (a:=1) (b:=1000) (by rw[DF];exact Ae _) hv ξ ξ,?_⟩;refine⟨_,rfl,D,ds,_,rfl,x,y,by rw[Aa,List.length_drop];(first|lia|omega),Qj (fun r hr=>hw r (List.mem_of_mem_drop hr)) ω,fun H4 s4=>⟨_,_,rfl,rfl,KF (a:=1000) (b:=10000 ^ 2) (by rw[AD,DF,Nat.one_mul];exact hv) (Ag hd hp) ξ ξ,_,_,rfl,rfl,_,rfl,_,rfl,some (.int (i:Int)),some (.ref D),by rw[Qi];rfl,S.trans s4⟩⟩
   ·rintro σ H2 ⟨z,I,rfl,sm⟩
    rw[show rs.length=n+1 from ω];exact⟨_,rfl,k H2 sm⟩
end
abbrev ww:Stmt:=top 56
def bS(r:List Int):Int:=((-1)::r).getLast (List.cons_ne_nil _ _)
def ext(size:Int)(r:List Int):Ξ:=(Ah (size-(bS r+1)).toNat).map fun i:Nat=>r++[bS r+1+(i:Int)]
def bK(size:Int):Nat->Ξ
 |0=>[[]]
 |m+1=>(bK size m).flatMap (ext size)
def Qm(r:List Int):atI (((-1)::r).map V.int) (-1)=some (.int (bS r)):=by
 have e:(-1)::r=((-1)::r).dropLast++[bS r]:=(List.dropLast_concat_getLast _).symm;rw[e,Aq];exact LQ _ _
def mh(s m:Nat):Bool:=decide ((bK s m).length<=3)&&(bK s m).all fun r=>decide (r.length=m)&&r.all fun x=>decide (0<=x)&&decide (x<s)
def KH:∀s,s<=3->∀m,m<=3->mh s m=true:=δ
def DJ{s m:Nat}(a:s<=3)(b:m<=3):(bK s m).length<=3:=by
 have:=KH s a m b;unfold mh at this;rw[AU,decide_eq_true_eq] at this;exact this.1
def pa{s m:Nat}(a:s<=3)(b:m<=3){r:List Int}(hr:r∈bK s m):r.length=m/\∀x∈r,0<=x/\x<s:=by
 have:=KH s a m b;unfold mh at this;rw[AU,AY] at this;have h:=this.2 r hr;rw[AU,decide_eq_true_eq,AY] at h;exact⟨h.1,fun x hx=>by have:=h.2 x hx;rw[AU,decide_eq_true_eq,decide_eq_true_eq] at this;exact this⟩
def Qn{s m:Nat}(b:s<=3)(a:m<=3){r:List Int}(hr:r∈bK s m):-1<=bS r/\bS r<3:=by
 have h:=(pa b a hr).2;have a:bS r∈(-1)::r:=List.getLast_mem _;rcases List.mem_cons.mp a with e|e
 ·rw[e];decide
 ·have:=h _ e;(first|lia|omega)
def Qo{a b:Type}{f:a->List b}(xs:List a)(i:Nat):((xs.take i).flatMap f).length<=(xs.flatMap f).length:=by
 have:(xs.take i).flatMap f++(xs.drop i).flatMap f=xs.flatMap f:=by rw[<-List.flatMap_append,List.take_append_drop]
 rw[<-this,AJ];(first|lia|omega)
def KI{a b:Type}{f:a->List b}{xs:List a}{i:Nat}{x:a}(h:xs[i]?=some x):(xs.take (i+1)).flatMap f=(xs.take i).flatMap f++f x:=by
 rw[A8 h,List.flatMap_append];simp
def Qp{H:Hp}{ds es:List Addr}{tb ub:Ξ}(h:Rws H ds tb)(g:Rws H es ub):Rws H (ds++es) (tb++ub):=by
 induction h with
 |nil=>exact g
 |cons a b ih=>exact .cons a ih
section
variable{P:Program}{w:World}{K:Af}{mg:Str->Option Value}{base:Heap}
def Qq{H2:Hp}{D:Addr}{lo:Int}{n:Nat}{Q:VK}{g:Nat->List Int}{te:TE}{c:List (Option V)}(u:∀(j:Nat)(H:Hp)(R:VK),j<n->Same H2 H->(∀d H',Same H H'->H d=none->H' d=some (.lst ((g j).map V.int))->R (.ref d) H')->te (some (.int (lo+j))::c) H R)(hz:n<=1000)(l:H2 D=none)(k:∀a ds,Same H2 a->a D=some (.lst (ds.map V.ref))->Rws a ds ((Ah n).map g)->Q (.ref D) a):cm (eY lo n) (zH 0) bx te (none::c) H2 D Q:=by
 refine nu (fun j σ ys a=>∃(v:Option V)(ds:List Addr),σ=v::c/\Same H2 a/\a D=some (.lst ys)/\ys=ds.map V.ref/\Rws a ds (((Ah n).take j).map g)/\ds.Nodup/\∀d∈ds,H2 d=none/\d≠D) ?_ ?_ ?_
 ·exact⟨none,[],rfl,Same.new l,za,rfl,.nil,.nil,fun d hd=>by cases hd⟩
 ·rintro j σ ys a h hy ⟨v,ds,rfl,sm,b,rfl,hr,i,hn⟩
  have e:(Ah n)[j]?=some j:=AQ h;refine cf (u j a _ h sm fun d w f hd p=>?_);obtain⟨q,r,s⟩:=rH (D:=D) (o:=.lst (ds.map V.ref++[.ref d])) sm hr i hn f hd (by rw[b];simp) p;refine bB (zp ω) h hy (f _ _ b) ⟨_,ds++[d],rfl,(sm.trans f).then l,za,by simp,?_,r,s⟩;rw[A8 e,Aq];exact q
 ·rintro σ ys a ⟨v,ds,rfl,sm,b,rfl,hr,i,hn⟩
  rw[An (by simp)] at hr;exact k a ds sm b hr
abbrev KJ:List Str:=["size","many","found","k","longer","row"]
def KL:Sp:=fun vs H Q _=>∃s m:Nat,vs=[.int s,.int m]/\s<=3/\m<=3/\∀D H' ds,Same H H'->H' D=some (.lst (ds.map V.ref))->Rws H' ds (bK s m)->Q (.ref D) H'
def mx:zm KJ ["size","many"] (ze ww):=⟨rfl,rfl,rfl,δ,rfl,δ,δ⟩
def Qr{f:Addr}{fd:FuncData}(F:Fun K "_law_choices" "_law_choices" ww f fd)(B:gi mg):ar P w K mg base aK 1 f fd ["size","many"] KL:=by
 refine F.ok mx (fun vs H Q E h=>?_) (fun ai A outer s H vs Q E hr h=>?_)
 ·obtain⟨s,m,rfl,_⟩:=h;rfl
 ·obtain⟨sz,m,rfl,u,hm,k⟩:=h
  refine⟨_,zb (zj (i:=2) mx.nd rfl (Or.inl rfl) (zX (af (zX ah) ah)))
   (zb (fh A0 rfl (kn rfl B.range (af (pv 1) ah)) (zl (i:=3) mx.nd rfl (Or.inl rfl))
    (zb (zj (i:=4) mx.nd rfl (Or.inl rfl) (zX ah))
    (zb (fh A0 rfl (zF (pv 2)) (zl (i:=5) mx.nd rfl (Or.inr rfl))
     (zg (zj (i:=4) mx.nd rfl (Or.inl rfl) (zt m4 (pv 4) (zx KJ ["place","row"] [none,some 5] (xB rfl B.range (af (zt dU (zu zr (zt m4 (zX (af (fS fU zd) ah)) (pv 5)) (fS fU zd) (fun _ _=>rfl)) zd) (af (pv 0) ah)))
      (fun U C s₀ H₀ ex=>zl (i:=0) (bF ["place","row"]) rfl (Or.inl rfl)) (fun U C s₀ H₀ ex=>zA) (fun U C s₀ H₀ ex=>zt m4 (pv 1) (zX (af (pv 0) ah))) (te:=bI i0 (aw 1) (qe (zO (aw 0) bL))) (hfr:=a_ (ze ww) δ))))))
    (zg (zj (i:=2) mx.nd rfl (Or.inl rfl) (pv 4))))))
   (zg (zq (pv 2)))),?_⟩
  refine⟨ξ,fun p0 vo=>⟨zp (by simp),fun F0 W=>⟨_,rfl,_,rfl,ω,ω,?_⟩⟩⟩;refine xS (lo:=0) (n:=m) (fun i σ H2=>∃(J L b:Option V)(c:Addr)(ds:List Addr),σ=[some (.int sz),some (.int m),some (.ref c),J,L,b]/\Same H H2/\H2 c=some (.lst (ds.map V.ref))/\Rws H2 ds (bK sz i))
   ⟨none,none,none,F0,[p0],rfl,(Same.new vo).trans (Same.new W),za,.cons ((Same.new W) _ _ za) .nil⟩ ?_ ?_
  ·rintro i σ H2 hi ⟨J,L,b,c,ds,rfl,sm,v,y⟩
   have l3:=DJ u (show i<=3 from ω);have uO:=DJ u (show i+1<=3 from ω);have gD:=y.len;refine⟨ξ,fun q hq=>⟨_,rfl,c,rfl,⟨_,SqL.of ((Same.new hq) _ _ v)⟩,mS (K:=K) (a:=c) (xs:=ds.map V.ref) (fun j σ e=>∃(b:Option V)(l:Addr)(es:List Addr),σ=[some (.int sz),some (.int m),some (.ref c),some (.int (0+(i:Int))),some (.ref l),b]/\Same H2 e/\e l=some (.lst (es.map V.ref))/\Rws e es (((bK sz i).take j).flatMap (ext sz)))
    ⟨b,q,[],rfl,Same.new hq,za,.nil⟩ (fun j σ e _ ⟨_,_,_,_,d,_⟩=>SqL.of (d _ _ v)) ?_ ?_⟩⟩
   ·rintro j x σ e hx ⟨b,l,es,rfl,d,M,p⟩
    obtain⟨o,eo,rfl⟩:=iv hx;obtain⟨r,z,Z⟩:=y.get eo;have ll:=Qn u (show i<=3 from ω) (Am z);have lr:=(pa u (show i<=3 from ω) (Am z)).1;refine⟨_,rfl,_,rfl,zp (by simp),fun p1 h_=>⟨_,rfl,?_⟩⟩;have N:=Same.new (o:=.lst [.int (-1)]) h_;refine⟨p1,o,_,_,rfl,rfl,za,N _ _ (d _ _ Z),zp (by simp;(first|lia|omega)),fun p2 cX=>⟨_,rfl,p2,_,_,_,rfl,rfl,SqL.of za,Qm r,_,_,rfl,rfl,_,rfl,?_⟩⟩;have s5:=Same.new (o:=.lst ([V.int (-1)]++r.map V.int)) cX;have ud:=d.trans (N.trans s5);have lq:=Qo (f:=ext sz) (bK sz i) (j+1);rw[KI z] at lq;have A_:((bK sz i).flatMap (ext sz)).length<=3:=uO;have Ch:=p.len;rw[AJ] at lq;refine⟨_,_,rfl,⟨ω,ω,ω,ω⟩,fun D hD=>zy (Qq (g:=fun i:Nat=>r++[bS r+1+(i:Int)]) (fun G H' R hj' s' hR=>?_) ω hD fun H4 I s6 cr X=>?_)⟩
    ·refine⟨_,rfl,_,rfl,zp (by simp),fun p3 io=>?_⟩
     have O:=Same.new (o:=.lst [.int (bS r+1+(G:Int))]) io;refine⟨o,p3,_,_,rfl,rfl,O _ _ (s' _ _ (ud _ _ Z)),za,zp (by simp;(first|lia|omega)),fun p4 Y=>?_⟩;rw[show r.map V.int++[V.int (bS r+1+(G:Int))]=(r++[bS r+1+(G:Int)]).map V.int by rw[Aq];rfl];exact hR p4 _ (O.trans (Same.new Y)) (O.free Y) za
    ·have m_:=X.len
     have lts:I.length=(ext sz r).length:=by rw[m_];unfold ext;rfl
     have S:=(N.trans s5).trans s6;refine⟨l,D,_,_,rfl,rfl,S _ _ M,cr,zp (by simp;(first|lia|omega)),fun p5 qX=>?_⟩;rw[<-Aq];have T:=Same.new (o:=.lst ((es++I).map V.ref)) qX;refine⟨_,p5,es++I,rfl,(d.trans S).trans T,za,?_⟩;rw[KI z];exact Qp (p.same (S.trans T)) (X.same T)
   ·rintro σ e ⟨b,l,es,rfl,d,M,p⟩
    refine⟨_,rfl,_,_,_,l,es,rfl,sm.trans d,M,?_⟩;rw[Aa,gD,An (Ae _)] at p;exact p
  ·rintro σ H2 ⟨J,L,b,c,ds,rfl,sm,v,y⟩
   exact⟨_,rfl,k c H2 ds sm v y⟩
end
end K22
end
section
namespace L2
open PySem PySem.Spec PyProof.Rows
section
variable{X:Cx}{scope:Scope}{al:List (Option Nat)}{tg iter aS:Expr}{aF:List Expr}{wi:TI}{g:TG}{tc:TT}{te:TE}{pos:Pos}
def Qs{i:Nat}{x:Str}{aC d:Pos}(e:X.N.Nodup)(c:X.N[i]?=some x)(hx:Loc X.env.scope x)(N N':List Str)(al:List (Option Nat))(hi:PI X tg iter wi)(hg:∀a C s₀ H₀ ex,PG (cxD X scope N' a C s₀ H₀ ex) tg g)(f:∀a C s₀ H₀ ex,gA (cxD X scope N' a C s₀ H₀ ex) aF tc)(h:∀a C s₀ H₀ ex,PE (cxD X scope N' a C s₀ H₀ ex) aS te)(hc:X.calm=true:=by rfl)(hk:scope.kind=.function:=by rfl)(j:∀y∈scope.names,y.2=.cell->scope.names.lookup y.1=some .cell:=by decide +kernel)(l:∀y∈scope.names,y.2=.free->scope.names.lookup y.1=some .free:=by decide +kernel)(o:∀y∈scope.names,y.2=.local->scope.names.lookup y.1=some .local:=by decide +kernel)(hfr:∀y∈scope.names,y.2=.free->X.env.kindOf y.1=some .cell\/X.env.kindOf y.1=some .free)(p:X.N=N:=by rfl)(b:gK N N' al scope=true:=by decide +kernel)(q:∀x,foldedSetIterable iter X.env x=pure x:=by intro _;rfl)(r:X.fn x=true\/X.env.scope.names.lookup x=some .local:=by first|exact .inl rfl|exact .inr rfl|assumption)(s:swapsWith (.ListComp aS [⟨tg,iter,aF,0⟩] scope pos) (some (.Name x aC)) d.line X.env=pure true:=by rfl):PS X (.Assign [.Name x aC] (.ListComp aS [⟨tg,iter,aF,0⟩] scope pos) d) (ee (i6 wi al g tc te) (zH i)):=
 HP hc hk j l o hfr (EC (by rw[p];exact b)) hi hg f h q e c hx r s
end
end L2
end
section
namespace K22
open PySem L2
abbrev wG:Stmt:=top 57
def sqr(tb:Ξ)(rows places:List Int):Ξ:=rows.map fun r=>places.map fun p=>fn tb r.toNat p.toNat
def dN(tb:Ξ)(m:Nat)(rows:List Int)(g:Int)(a:Ξ):Int:=a.foldl (fun g ps=>(Int.gcd g (det m (sqr tb rows ps)):Nat)) g
def eN(tb:Ξ)(m:Nat)(a:Ξ)(g:Int)(rs:Ξ):Int:=rs.foldl (fun g r=>dN tb m r g a) g
def GM{tb:Ξ}(h:∀r∈tb,Bnd 1000 r)(i j:Nat):-1000<=fn tb i j/\fn tb i j<=1000:=by
 have:=DG (M:=1000) (DH h i) j;have e:fn tb i j=vc (rowAt tb i) j:=rfl;rw[e];(first|lia|omega)
def KM{tb:Ξ}{m:Nat}{r ps:List Int}(h:∀r∈tb,Bnd 1000 r)(a:ps.length=m):∀q∈sqr tb r ps,q.length=m/\Bnd 1000 q:=fun q hq=>by
 unfold sqr at hq;obtain⟨x,_,rfl⟩:=List.mem_map.mp hq;refine⟨by rw[Aa];exact a,fun y hy=>?_⟩;obtain⟨p,_,rfl⟩:=List.mem_map.mp hy;exact GM h _ _
section
variable{P:Program}{w:World}{K:Af}{mg:Str->Option Value}{base:Heap}
def Qt{H2:Hp}{L D:Addr}{ns:List Int}{Q:VK}{f:Int->Int}{te:TE}{c:List (Option V)}(h:∀(x:Int)(H:Hp)(R:VK),Same H2 H->x∈ns->R (.int (f x)) H->te (some (.int x)::c) H R)(i:H2 L=some (.lst (ns.map V.int)))(hz:ns.length<=1000)(e:H2 D=none)(k:∀b,Same H2 b->b D=some (.lst ((ns.map f).map V.int))->Q (.ref D) b):cm (dS K L) (zH 0) bx te (none::c) H2 D Q:=by
 refine zY (xs:=ns.map V.int) (fun j σ ys b=>∃(v:Option V),σ=v::c/\Same H2 b/\b D=some (.lst ys)/\ys=((ns.take j).map f).map V.int) ⟨none,rfl,Same.new e,za,rfl⟩ ?_ ?_ ?_
 ·rintro j σ ys b ⟨v,rfl,sm,a,rfl⟩
  exact SqL.of (sm _ _ i)
 ·rintro j σ ys b x hx g hy ⟨v,rfl,sm,a,rfl⟩
  obtain⟨y,d,rfl⟩:=eV hx;refine cf (h y b _ sm (Am d) (bB (by rw[Aa];exact zp ω) g hy a ⟨_,rfl,sm.then e,za,?_⟩));rw[A8 d,Aq,Aq];rfl
 ·rintro σ ys b ⟨v,rfl,sm,a,rfl⟩
  rw[Aa,An (Ae _)] at a;exact k b sm a
def Qu{H2:Hp}{L D:Addr}{ns:List Int}{Q:VK}{g:Int->List Int}{te:TE}{c:List (Option V)}(w:∀(x:Int)(H:Hp)(R:VK),Same H2 H->x∈ns->(∀d H',Same H H'->H d=none->H' d=some (.lst ((g x).map V.int))->R (.ref d) H')->te (some (.int x)::c) H R)(z:H2 L=some (.lst (ns.map V.int)))(hz:ns.length<=1000)(i:H2 D=none)(k:∀a ds,Same H2 a->a D=some (.lst (ds.map V.ref))->Rws a ds (ns.map g)->Q (.ref D) a):cm (dS K L) (zH 0) bx te (none::c) H2 D Q:=by
 refine zY (xs:=ns.map V.int) (fun j σ ys a=>∃(v:Option V)(ds:List Addr),σ=v::c/\Same H2 a/\a D=some (.lst ys)/\ys=ds.map V.ref/\Rws a ds ((ns.take j).map g)/\ds.Nodup/\∀d∈ds,H2 d=none/\d≠D) ?_ ?_ ?_ ?_
 ·exact⟨none,[],rfl,Same.new i,za,rfl,.nil,.nil,fun d hd=>by cases hd⟩
 ·rintro j σ ys a ⟨v,ds,rfl,sm,_⟩
  exact SqL.of (sm _ _ z)
 ·rintro j σ ys a x hx p hy ⟨v,ds,rfl,sm,b,rfl,hr,f,hn⟩
  obtain⟨y,h,rfl⟩:=eV hx;have u:(ns.map V.int).length<=sizeLine:=by rw[Aa];exact zp ω
  refine cf (w y a _ sm (Am h) fun d A e hd l=>?_);obtain⟨q,r,s⟩:=rH (D:=D) (o:=.lst (ds.map V.ref++[.ref d])) sm hr f hn e hd (by rw[b];simp) l;refine bB u p hy (e _ _ b) ⟨_,ds++[d],rfl,(sm.trans e).then i,za,by simp,?_,r,s⟩;rw[A8 h,Aq];exact q
 ·rintro σ ys a ⟨v,ds,rfl,sm,b,rfl,hr,f,hn⟩
  rw[Aa,An (Ae _)] at hr;exact k a ds sm b hr
abbrev KN:List Str:=["table","many","found","rows","places","square"]
def KO(K:Af):Sp:=fun vs H Q _=>∃(L:Addr)(rs:List Addr)(tb:Ξ)(m:Nat),vs=[.ref L,.int m]/\H L=some (.lst (rs.map V.ref))/\Rws H rs tb/\tb.length<=3/\wid tb<=3/\(∀r∈tb,r.length=wid tb/\Bnd 1000 r)/\m<=3/\∀H',Same H H'->Q (.int (eN tb m (bK (wid tb) m) 0 (bK tb.length m))) H'
def pe:zm KN ["table","many"] (ze wG):=⟨rfl,rfl,rfl,δ,rfl,δ,δ⟩
abbrev wJ(K:Af):TE:=bI (fA K) (bI (fA K) (aw 1) (aw 2)) (aw 0)
abbrev GN(K:Af):TE:=i6 (GW K (aw 1)) [none,some 2,some 0] (zH 0) bx (wJ K)
def Qv{f Z fw oZ fg:Addr}{fd bD aM pC mj:FuncData}(F:Fun K "_law_divisor" "_law_divisor" wG f fd)(B:gi mg)(Fc:Fun K "_law_choices" "_law_choices" ww Z bD)(bc:Binds K bD ["size","many"] [])(mc:mg "_law_choices"=some (.ref Z))(Gc:ar P w K mg base aK 1 Z bD ["size","many"] KL)(Fw:Fun K "_law_wide" "_law_wide" v' fw aM)(bw:Binds K aM ["table"] [])(mw:mg "_law_wide"=some (.ref fw))(Gw:ar P w K mg base aK 1 fw aM ["table"] (Gy K))(Fd:Fun K "_law_determinant" "_law_determinant" h5 oZ pC)(bd:Binds K pC ["rows"] [])(md:mg "_law_determinant"=some (.ref oZ))(Fg:Fun K "_law_common" "_law_common" DD fg mj)(bg:Binds K mj ["one","other"] [])(sD:mg "_law_common"=some (.ref fg))(Gg:ar P w K mg base aK 1 fg mj ["one","other"] Kz):ar P w K mg base aK 5 f fd ["table","many"] (KO K):=by
 refine F.ok pe (fun vs H Q E h=>?_) (fun ai A outer s H vs Q E hr h=>?_)
 ·obtain⟨L,rs,tb,m,rfl,_⟩:=h;rfl
 ·obtain⟨L,rs,tb,m,rfl,U,W,k3,X,hw,u,k⟩:=h
  have e:Room 1 _:=hr.mono ξ;have uB:Room (m+1) _:=hr.mono ω;have Gd:=KG (P:=P) (w:=w) (base:=base) Fd B bd md m u;have aZ:=W.len;refine⟨_,zb (zj (i:=2) pe.nd rfl (Or.inl rfl) zd)
   (zb (fh A0 rfl (zF (zf Gc e rfl mc Fc.kp bc .nil ak (af (zi zo rfl B.len de (af (pv 0) ah)) (af (pv 1) ah)))) (zl (i:=3) pe.nd rfl (Or.inl rfl))
    (zg (fh A0 rfl (zF (zf Gc e rfl mc Fc.kp bc .nil ak (af (zf Gw e rfl mw Fw.kp bw .nil ak (af (pv 0) ah)) (af (pv 1) ah)))) (zl (i:=4) pe.nd rfl (Or.inr rfl))
     (zb (Qs (i:=5) pe.nd rfl (Or.inl rfl) KN ["row","places","table"] [none,some 4,some 0] (zF (pv 3)) (fun G C s₀ H₀ ex=>zl (i:=0) (bF ["row","places","table"]) rfl (Or.inr rfl)) (fun G C s₀ H₀ ex=>zA)
      (fun G C s₀ H₀ ex=>zx ["row","places","table"] ["place","table","row"] [none,some 2,some 0] (zF (pv 1)) (fun G C s₀ H₀ ex=>zl (i:=0) (bF ["place","table","row"]) rfl (Or.inl rfl)) (fun G C s₀ H₀ ex=>zA)
       (fun G C s₀ H₀ ex=>zu zr (zu zr (pv 1) (pv 2) (fun _ _=>rfl)) (pv 0) (fun _ _=>rfl)) (hfr:=No rfl δ) (te:=wJ K))
      (hfr:=a_ (ze wG) δ) (te:=GN K))
     (zg (zj (i:=2) pe.nd rfl (Or.inl rfl) (zf Gg e rfl sD Fg.kp bg .nil ak (af (pv 2) (af (zf Gd uB rfl md Fd.kp bd .nil ak (af (pv 5) ah)) ah)))))))))
   (zg (zq (pv 2)))),?_⟩
  have zR:=DJ k3 u;have zC:=DJ X u;refine⟨_,rfl,L,_,rfl,.inl (SqL.of U),_,rfl,rs.length,m,(by rw[Aa];rfl),ω,u,fun R H1 ds M hR S=>?_⟩;rw[aZ] at S;have vQ:=S.len;refine⟨R,rfl,⟨_,SqL.of hR⟩,mS (K:=K) (a:=R) (xs:=ds.map V.ref) (fun i σ H2=>∃(T b c:Option V),σ=[some (.ref L),some (.int m),some (.int (eN tb m (bK (wid tb) m) 0 ((bK tb.length m).take i))),T,b,c]/\Same H1 H2)
   ⟨none,none,none,rfl,Same.refl _⟩ (fun i σ H2 _ ⟨_,_,_,_,sm⟩=>SqL.of (sm _ _ hR)) ?_ ?_⟩
  ·rintro i x σ H2 hx ⟨T,b,c,rfl,sm⟩
   obtain⟨o,eo,rfl⟩:=iv hx;obtain⟨r,er,ho⟩:=S.get eo;obtain⟨lr,br⟩:=pa k3 u (Am er);refine⟨_,rfl,L,rs,tb,rfl,SqL.of ((M.trans sm) _ _ U),W.same (M.trans sm),fun H3 s3=>⟨_,rfl,wid tb,m,rfl,X,u,fun C H4 es s4 hC fL=>?_⟩⟩;have rJ:=fL.len;have Y:=sm.trans (s3.trans s4);have jZ:=M.trans Y;refine⟨C,rfl,⟨_,SqL.of hC⟩,mS (K:=K) (a:=C) (xs:=es.map V.ref) (fun j σ O=>∃(b c:Option V),σ=[some (.ref L),some (.int m),some (.int (dN tb m r (eN tb m (bK (wid tb) m) 0 ((bK tb.length m).take i)) ((bK (wid tb) m).take j))),some (.ref o),b,c]/\Same H4 O)
    ⟨b,c,rfl,Same.refl _⟩ (fun j σ O _ ⟨_,_,_,l⟩=>SqL.of (l _ _ hC)) ?_ ?_⟩
   ·rintro j y σ O hy ⟨b,c,rfl,l⟩
    obtain⟨q,eq,rfl⟩:=iv hy;obtain⟨ps,ep,hq⟩:=fL.get eq;obtain⟨lp,bp⟩:=pa X u (Am ep);have ju:=jZ.trans l;have oO:=Y.trans l;refine⟨_,rfl,o,rfl,⟨_,SqL.of (oO _ _ ho)⟩,fun D hD=>zy (Qu (g:=fun r=>ps.map fun p=>fn tb r.toNat p.toNat) (fun x H6 R6 N hx wF=>?_) (oO _ _ ho) ω hD fun H6 ts N rG jX=>?_)⟩
    ·have J:=N _ _ (l _ _ hq)
     obtain⟨z,rfl⟩:=Int.eq_ofNat_of_zero_le (br x hx).1;have pz:=(br _ hx).2;refine⟨_,rfl,q,rfl,⟨_,SqL.of J⟩,fun D2 jy=>zy (Qt (f:=fun p=>fn tb z p.toNat) (fun p H7 R7 I hp ug=>?_) J ω jy fun H7 I lW=>wF D2 H7 I jy lW)⟩;obtain⟨pn,rfl⟩:=Int.eq_ofNat_of_zero_le (bp p hp).1;have pb:=(bp _ hp).2;have fZ:=ju.trans (N.trans I);obtain⟨d,ed⟩:∃d,rs[z]?=some d:=⟨_,Ac (show z<rs.length from ω)⟩;obtain⟨ns,en,aB⟩:=W.get ed;have rS:=(hw ns (Am en)).1;have ev:ns[pn]?=some (fn tb z pn):=by
      unfold fn rowAt vc;rw[Ab,Ab,en];show ns[pn]?=some ((ns[pn]?).getD 0);rw[Ac (show pn<ns.length from ω)];rfl
     exact⟨_,rfl,_,rfl,L,_,_,_,rfl,rfl,SqL.of (fZ _ _ U),zh (j:=z) (v:=V.ref d) (by rw[Aj,ed];rfl),_,rfl,d,_,_,_,rfl,rfl,SqL.of (fZ _ _ aB),zh (j:=pn) (v:=V.int (fn tb z pn)) (by rw[Aj,ev];rfl),ug⟩
    ·refine⟨_,rfl,_,rfl,D,ts,sqr tb r ps,rfl,rG,jX,by unfold sqr;rw[Aa];exact lr,KM (fun r hr=>(hw r hr).2) lp,fun H7 I=>⟨_,_,rfl,fun H8 s8=>⟨some (.ref q),some (.ref D),by rw[A8 ep];unfold dN;rw[List.foldl_append];rfl,l.trans (N.trans (I.trans s8))⟩⟩⟩
   ·rintro σ O ⟨b,c,rfl,l⟩
    rw[Aa,rJ,An (Ae _)];exact⟨some (.ref o),b,c,by rw[A8 er];unfold eN;rw[List.foldl_append];rfl,Y.trans l⟩
  ·rintro σ H2 ⟨T,b,c,rfl,sm⟩
   rw[Aa,vQ,An (Ae _)];exact⟨_,rfl,k H2 (M.trans sm)⟩
end
def KP{tb:Ξ}{m:Nat}{r:List Int}{h:Int}:∀(a:Ξ)(g:Int),(h ∣ dN tb m r g a↔h ∣ g/\∀ps∈a,h ∣ det m (sqr tb r ps))
 |[],g=>⟨fun e=>⟨e,fun _ hp=>nomatch hp⟩,fun e=>e.1⟩
 |c::a,g=>by
  show h ∣ dN tb m r ((Int.gcd g (det m (sqr tb r c)):Nat):Int) a↔_;rw[KP a];constructor
  ·rintro⟨h1,h2⟩
   refine⟨Int.dvd_trans h1 (Int.gcd_dvd_left ..),fun ps hp=>?_⟩;rcases List.mem_cons.mp hp with e|e
   ·rw[e];exact Int.dvd_trans h1 (Int.gcd_dvd_right ..)
   ·exact h2 ps e
  ·rintro⟨h1,h2⟩
   exact⟨Int.dvd_coe_gcd h1 (h2 c (At ..)),fun ps hp=>h2 ps (Ay _ hp)⟩
def KQ{tb:Ξ}{m:Nat}{a:Ξ}{h:Int}:∀(rs:Ξ)(g:Int),(h ∣ eN tb m a g rs↔h ∣ g/\∀r∈rs,∀ps∈a,h ∣ det m (sqr tb r ps))
 |[],g=>⟨fun e=>⟨e,fun _ hp=>nomatch hp⟩,fun e=>e.1⟩
 |r::rs,g=>by
  show h ∣ eN tb m a (dN tb m r g a) rs↔_;rw[KQ rs,KP a];constructor
  ·rintro⟨⟨h1,h2⟩,b⟩
   refine⟨h1,fun q hq=>?_⟩;rcases List.mem_cons.mp hq with e|e
   ·rw[e];exact h2
   ·exact b q e
  ·rintro⟨h1,h2⟩
   exact⟨⟨h1,h2 r (At ..)⟩,fun q hq=>h2 q (Ay _ hq)⟩
def KR{tb:Ξ}{m:Nat}{r:List Int}:∀(a:Ξ)(g:Int),0<=g->0<=dN tb m r g a
 |[],_,h=>h
 |c::a,g,_=>KR a _ (Int.natCast_nonneg _)
def KS{tb:Ξ}{m:Nat}{a:Ξ}:∀(rs:Ξ)(g:Int),0<=g->0<=eN tb m a g rs
 |[],_,h=>h
 |r::rs,g,h=>KS rs _ (KR a g h)
def GO{tb:Ξ}{m:Nat}{a rs:Ξ}{h:Int}:h ∣ eN tb m a 0 rs↔∀r∈rs,∀ps∈a,h ∣ det m (sqr tb r ps):=by
 rw[KQ];exact⟨fun e=>e.2,fun e=>⟨Int.dvd_zero _,e⟩⟩
end K22
namespace K22
def KU:∀s:Nat,s<=3->∀i:Nat,i<3->i<s->[((i:Nat):Int)]∈bK s 1:=δ
def c2(s i j:Nat):Bool:=!(decide (i<j)&&decide (j<s))|| decide ([(i:Int),(j:Int)]∈bK s 2)
def Qw:∀s:Nat,s<=3->∀i:Nat,i<3->∀j:Nat,j<3->c2 s i j=true:=δ
def KW(s:Nat)(a:s<=3)(i:Nat)(hi:i<3)(j:Nat)(b:j<3)(h1:i<j)(h2:j<s):[((i:Nat):Int),((j:Nat):Int)]∈bK s 2:=by
 have:=Qw s a i hi j b;unfold c2 at this;rw[decide_eq_true h1,decide_eq_true h2] at this;exact of_decide_eq_true this
def Qx:bK (3:Nat) 3=[[0,1,2]]:=δ
def KY{s:Nat}(c:s<=3){r:List Int}(h:r∈bK s 1):∃i:Nat,r=[(i:Int)]/\i<s:=by
 obtain⟨l,b⟩:=pa c (show 1<=3 from ξ) h
 match r,l,b with
 |[x],_,b=>
  obtain⟨a,h1⟩:=b x (At ..);obtain⟨n,rfl⟩:=Int.eq_ofNat_of_zero_le a;exact⟨n,rfl,ω⟩
def ia{s:Nat}(d:s<=3){r:List Int}(h:r∈bK s 2):∃i j:Nat,r=[(i:Int),(j:Int)]/\i<s/\j<s:=by
 obtain⟨l,b⟩:=pa d (show 2<=3 from ξ) h
 match r,l,b with
 |[x,y],_,b=>
  obtain⟨a,h1⟩:=b x (At ..);obtain⟨c,g1⟩:=b y (Ay _ (At ..));obtain⟨n,rfl⟩:=Int.eq_ofNat_of_zero_le a;obtain⟨m,rfl⟩:=Int.eq_ofNat_of_zero_le c;exact⟨n,m,rfl,ω,ω⟩
section
variable{tb:Ξ}{h:Int}
def KZ(hk:tb.length<=3)(hw:wid tb<=3):h ∣ eN tb 1 (bK (wid tb) 1) 0 (bK tb.length 1)↔Tb.M1 h tb.length (wid tb) (fn tb):=by
 rw[GO];constructor
 ·intro g i a hi b
  have e:det 1 (sqr tb [(i:Int)] [(a:Int)])=fn tb i a:=ws;rw[<-e];exact g _ (KU _ hk i ω hi) _ (KU _ hw a ω b)
 ·intro g r hr ps hp
  obtain⟨i,rfl,hi⟩:=KY hk hr;obtain⟨a,rfl,b⟩:=KY hw hp;have e:det 1 (sqr tb [(i:Int)] [(a:Int)])=fn tb i a:=ws;rw[e];exact g i a hi b
def K0(hk:tb.length<=3)(hw:wid tb<=3):h ∣ eN tb 2 (bK (wid tb) 2) 0 (bK tb.length 2)↔Tb.M2 h tb.length (wid tb) (fn tb):=by
 have e:∀i j a b:Nat,det 2 (sqr tb [(i:Int),(j:Int)] [(a:Int),(b:Int)])=Tb.sq2 (fn tb i) (fn tb j) a b:=fun i j a b=>GK;rw[GO];constructor
 ·intro g
  refine Tb.M2.of fun i j a b hi c d hb=>?_;rw[<-e];exact g _ (KW _ hk i ω j ω hi c) _ (KW _ hw a ω b ω d hb)
 ·intro g r hr ps hp
  obtain⟨i,j,rfl,hi,c⟩:=ia hk hr;obtain⟨a,b,rfl,d,hb⟩:=ia hw hp;rw[e];exact g i j a b hi c d hb
def K2(hk:tb.length=3)(hw:wid tb=3):h ∣ eN tb 3 (bK (wid tb) 3) 0 (bK tb.length 3)↔h ∣ Tb.ck (fn tb 0) (fn tb 1) (fn tb 2) 0 1 2:=by
 have e:det 3 (sqr tb [0,1,2] [0,1,2])=Tb.ck (fn tb 0) (fn tb 1) (fn tb 2) 0 1 2:=GL;rw[GO,hk,hw,Qx,<-e];constructor
 ·intro g;exact g _ (At ..) _ (At ..)
 ·intro g r hr ps hp
  rw[List.mem_singleton] at hr hp;rw[hr,hp];exact g
end
open PySem L2
abbrev DK:Stmt:=top 58
def dv(tb:Ξ)(m:Nat):Int:=eN tb m (bK (wid tb) m) 0 (bK tb.length m)
def go(d:Nat->Int):Nat->Nat->Int->List Int
 |0,_,_=>[]
 |n+1,m,ahead=>if d m=0 then [] else(d m / ahead)::go d n (m+1) (d m)
def pf(tb:Ξ):List Int:=go (dv tb) (min tb.length (wid tb)) 1 1
def Qy{g d:Int}{B:Nat}(h1:g.natAbs<=B)(h2:d.natAbs<=B):((Int.gcd g d:Nat):Int).natAbs<=B:=by
 rw[Int.natAbs_natCast]
 by_cases c:g=0
 ·rw[c,Int.gcd_zero_left];exact h2
 ·exact Ag (Nat.le_of_dvd ω (Nat.gcd_dvd_left g.natAbs d.natAbs)) h1
def K3{tb:Ξ}{m B:Nat}{r:List Int}:∀(a:Ξ)(g:Int),g.natAbs<=B->(∀ps∈a,(det m (sqr tb r ps)).natAbs<=B)->(dN tb m r g a).natAbs<=B
 |[],_,h,_=>h
 |c::a,g,h,k=>K3 a _ (Qy h (k c (At ..))) fun ps hp=>k ps (Ay _ hp)
def K4{tb:Ξ}{m B:Nat}{a:Ξ}:∀(rs:Ξ)(g:Int),g.natAbs<=B->(∀r∈rs,∀ps∈a,(det m (sqr tb r ps)).natAbs<=B)->(eN tb m a g rs).natAbs<=B
 |[],_,h,_=>h
 |r::rs,g,h,k=>K4 rs _ (K3 a g h (k r (At ..))) fun q hq=>k q (Ay _ hq)
def Qz{tb:Ξ}{m:Nat}(a:m<=3)(h:∀r∈tb,Bnd 1000 r):(dv tb m).natAbs<=10000 ^ 3:=by
 refine K4 _ 0 (AB _) fun r _ ps _=>?_;refine Ag (DI m a fun q hq=>?_) (AA ξ a);exact(KM h rfl q hq).2
def DL{tb:Ξ}{m:Nat}:0<=dv tb m:=KS _ 0 ξ
section
variable{k w:Nat}{tb u ub v vb:Ξ}{st:List Int}
def GP(p:Pap k w (fn tb) u ub v vb st)(i:Nat):vc st i ∣ vc st (i+1):=by
 by_cases c:i+1<st.length
 ·exact p.sd i c
 ·rw[show vc st (i+1)=0 from f_ ω];exact Int.dvd_zero _
def QA(p:Pap k w (fn tb) u ub v vb st)(i:Nat):0<=vc st i/\(i<st.length->0<vc st i):=by
 by_cases c:i<st.length
 ·have:vc st i∈st:=by
   unfold vc;rw[Ab,Ac c];exact AI _
  have:=p.sp _ this;exact⟨ω,fun _=>this⟩
 ·rw[show vc st i=0 from f_ ω]
  exact⟨ξ,fun z=>absurd z c⟩
def eq1(p:Pap k w (fn tb) u ub v vb st):Tb.Eqv k w (fn tb) (Tb.cp (vc st)):=Tb.Eqv.back p.u2 p.v1 fun i j hi a=>p.pr' hi a
def eq2(p:Pap k w (fn tb) u ub v vb st):Tb.Eqv k w (Tb.cp (vc st)) (fn tb):=⟨fn u,fun t s=>fn v s t,fun i j hi a=>(p.pr' hi a).symm⟩
end
def l0{st:List Int}(h:st.length=0):st=[]:=AG h
def l1:∀{st:List Int},st.length=1->st=[vc st 0]
 |[x],_=>rfl
def l2:∀{st:List Int},st.length=2->st=[vc st 0,vc st 1]
 |[x,y],_=>rfl
def l3:∀{st:List Int},st.length=3->st=[vc st 0,vc st 1,vc st 2]
 |[x,y,z],_=>rfl
section
variable{tb u ub v vb:Ξ}{st:List Int}
def GQ(p:Pap tb.length (wid tb) (fn tb) u ub v vb st)(hk:tb.length<=3)(hw:wid tb<=3):pf tb=st:=by
 have f:=p.sk;have g:=p.sw;have q:=QA p;have d1:1<=tb.length->1<=wid tb->dv tb 1=vc st 0:=fun h1 h2=>Tb.lX (eq1 p) (eq2 p) (GP p) (fun i=>(q i).1) h1 h2 DL ((KZ hk hw).mp (Int.dvd_refl _)) fun h m=>(KZ hk hw).mpr m;have d2:2<=tb.length->2<=wid tb->dv tb 2=vc st 0*vc st 1:=fun h1 h2=>Tb.l6 (eq1 p) (eq2 p) (GP p) (fun i=>(q i).1) h1 h2 DL ((K0 hk hw).mp (Int.dvd_refl _)) fun h m=>(K0 hk hw).mpr m;have d3:tb.length=3->wid tb=3->dv tb 3=vc st 0*(vc st 1*vc st 2):=fun h1 h2=>Tb.ma (by have:=eq1 p;rwa [h1,h2] at this) (by have:=eq2 p;rwa [h1,h2] at this) (GP p) (fun i=>(q i).1) DL ((K2 h1 h2).mp (Int.dvd_refl _)) fun h m=>(K2 h1 h2).mpr m;have nz:∀i,vc st i≠0->i<st.length:=fun i h=>by
  by_cases c:i<st.length
  ·exact c
  ·exact absurd (f_ ω) h
 have len:∀i,vc st i=0->st.length<=i:=fun i h=>by
  by_cases c:i<st.length
  ·have:=(q i).2 c;(first|lia|omega)
  ·(first|lia|omega)
 unfold pf;have hn:min tb.length (wid tb)=0\/min tb.length (wid tb)=1\/min tb.length (wid tb)=2\/min tb.length (wid tb)=3:=ω
 have g1:∀n,1<=min tb.length (wid tb)->go (dv tb) (n+1) 1 1=if vc st 0=0 then [] else vc st 0::go (dv tb) n 2 (vc st 0):=fun n h=>by
  show(if dv tb 1=0 then [] else(dv tb 1 / 1)::go (dv tb) n (1+1) (dv tb 1))=_;rw[d1 ω ω,Int.ediv_one]
 have g2:∀n,2<=min tb.length (wid tb)->vc st 0≠0->go (dv tb) (n+1) 2 (vc st 0)=if vc st 1=0 then [] else vc st 1::go (dv tb) n 3 (vc st 0*vc st 1):=fun n h z=>by
  show(if dv tb 2=0 then [] else(dv tb 2 / vc st 0)::go (dv tb) n (2+1) (dv tb 2))=_;rw[d2 ω ω,Int.mul_ediv_cancel_left _ z]
  by_cases c:vc st 1=0
  ·rw[if_pos c,if_pos (by rw[c,Bi])]
  ·rw[if_neg c,if_neg (Int.mul_ne_zero z c)]
 have g3:3<=min tb.length (wid tb)->vc st 0≠0->vc st 1≠0->go (dv tb) 1 3 (vc st 0*vc st 1)=if vc st 2=0 then [] else [vc st 2]:=fun h z b=>by
  show(if dv tb 3=0 then [] else(dv tb 3 / (vc st 0*vc st 1))::[])=_;rw[d3 ω ω,<-AR,Int.mul_ediv_cancel_left _ (Int.mul_ne_zero z b)]
  by_cases c:vc st 2=0
  ·rw[if_pos c,if_pos (by rw[c,Bi])]
  ·rw[if_neg c,if_neg (Int.mul_ne_zero (Int.mul_ne_zero z b) c)]
 rcases hn with hn|hn|hn|hn
 ·rw[hn];exact(l0 ω).symm
 ·rw[hn,g1 0 ω]
  by_cases a:vc st 0=0
  ·rw[if_pos a];exact(l0 (by have:=len 0 a;(first|lia|omega))).symm
  ·rw[if_neg a];exact(l1 (by have:=nz 0 a;(first|lia|omega))).symm
 ·rw[hn,g1 1 ω]
  by_cases a:vc st 0=0
  ·rw[if_pos a];exact(l0 (by have:=len 0 a;(first|lia|omega))).symm
  ·rw[if_neg a,g2 0 ω a]
   have e:=nz 0 a
   by_cases b:vc st 1=0
   ·rw[if_pos b];exact(l1 (by have:=len 1 b;(first|lia|omega))).symm
   ·rw[if_neg b];exact(l2 (by have:=nz 1 b;(first|lia|omega))).symm
 ·rw[hn,g1 2 ω]
  by_cases a:vc st 0=0
  ·rw[if_pos a];exact(l0 (by have:=len 0 a;(first|lia|omega))).symm
  ·rw[if_neg a,g2 1 ω a]
   have e:=nz 0 a
   by_cases b:vc st 1=0
   ·rw[if_pos b];exact(l1 (by have:=len 1 b;(first|lia|omega))).symm
   ·rw[if_neg b,g3 ω a b]
    have n1:=nz 1 b
    by_cases d:vc st 2=0
    ·rw[if_pos d];exact(l2 (by have:=len 2 d;(first|lia|omega))).symm
    ·rw[if_neg d];exact(l3 (by have:=nz 2 d;(first|lia|omega))).symm
end
def ic{a b:Int}:decide (V.int a=V.int b)=decide (a=b):=by rw[Bool.eq_iff_iff];simp
abbrev QB:List Str:=["table","found","ahead","many","here"]
def QC{d:Nat->Int}{n m:Nat}{a:Int}(h:d m=0):go d n m a=[]:=by
 cases n with
 |zero=>rfl
 |succ n=>show(if d m=0 then [] else _)=[];rw[if_pos h]
def QD{d:Nat->Int}{n m:Nat}{a:Int}(h:d m≠0):go d (n+1) m a=(d m / a)::go d n (m+1) (d m):=by
 show(if d m=0 then [] else _)=_;rw[if_neg h]
section
variable{P:Program}{w:World}{K:Af}{mg:Str->Option Value}{base:Heap}
def K5(K:Af):Sp:=fun vs H Q _=>∃(L:Addr)(rs:List Addr)(tb:Ξ),vs=[.ref L]/\H L=some (.lst (rs.map V.ref))/\Rws H rs tb/\tb.length<=3/\wid tb<=3/\(∀r∈tb,r.length=wid tb/\Bnd 1000 r)/\∀D H',Same H H'->H D=none->H' D=some (.lst ((pf tb).map V.int))->Q (.ref D) H'
def ph:zm QB ["table"] (ze DK):=⟨rfl,rfl,rfl,δ,rfl,δ,δ⟩
def QE{f v fv:Addr}{fd x y:FuncData}(F:Fun K "_law_steps" "_law_steps" DK f fd)(B:gi mg)(Y:mg "min"=none)(Fw:Fun K "_law_wide" "_law_wide" v' v x)(Z:Binds K x ["table"] [])(mw:mg "_law_wide"=some (.ref v))(Gw:ar P w K mg base aK 1 v x ["table"] (Gy K))(Fv:Fun K "_law_divisor" "_law_divisor" wG fv y)(bv:Binds K y ["table","many"] [])(mv:mg "_law_divisor"=some (.ref fv))(Gv:ar P w K mg base aK 5 fv y ["table","many"] (KO K)):ar P w K mg base aK 6 f fd ["table"] (K5 K):=by
 refine F.ok ph (fun vs H Q E h=>?_) (fun ai A outer s H vs Q E hr h=>?_)
 ·obtain⟨L,rs,tb,rfl,_⟩:=h;rfl
 ·obtain⟨L,rs,tb,rfl,p,q,k3,N,hw,k⟩:=h
  have u:Room 1 _:=hr.mono ξ;have I:=q.len;refine⟨_,zb (zj (i:=1) ph.nd rfl (Or.inl rfl) (zX ah))
   (zb (zj (i:=2) ph.nd rfl (Or.inl rfl) zd)
   (zb (fh A0 rfl (xB rfl B.range (af zd (af (zt dU (zi (G3 rfl) rfl Y J' (af (zi zo rfl B.len de (af (pv 0) ah)) (af (zf Gw u rfl mw Fw.kp Z .nil ak (af (pv 0) ah)) ah))) zd) ah))) (zl (i:=3) ph.nd rfl (Or.inl rfl))
    (zb (zj (i:=4) ph.nd rfl (Or.inl rfl) (zf Gv hr rfl mv Fv.kp bv .nil ak (af (pv 0) (af (pv 3) ah))))
    (zb (cT (zw fX (pv 4) zd (av _)) (zg (zq (pv 1))) zL)
    (zb (mO (qE PySem.F.plainAttrs_list PySem.F.slot_list_append PySem.F.type_list_append yJ (pv 1) (af (zt Ci (pv 4) (pv 2)) ah)))
    (zg (zj (i:=2) ph.nd rfl (Or.inl rfl) (pv 4)))))))
   (zg (zq (pv 1))))),?_⟩
  refine⟨ξ,fun T d=>?_⟩;have g:=Same.new (o:=.lst []) d;refine⟨_,rfl,L,_,rfl,.inl (SqL.of (g _ _ p)),_,rfl,L,rs,tb,rfl,SqL.of (g _ _ p),q.same g,fun H1 C=>⟨_,_,rfl,_,_,rfl,rfl,_,_,rfl,?_,?_⟩⟩
  ·rw[Aa,I]
   refine⟨?_,?_,?_,?_⟩<;>(try decide)<;>split<;>(first|lia|omega)
  have S:((if(wid tb:Int)<((rs.map V.ref).length:Int) then(wid tb:Int) else((rs.map V.ref).length:Int))+1-1).toNat=min tb.length (wid tb):=by
   rw[Aa,I];split<;>(first|lia|omega)
  rw[S];have U:∀m,m<=3->(dv tb m).natAbs<2 ^ 9000:=fun m M=>Ax (Qz M fun r hr=>(hw r hr).2) (Av (by decide:10000 ^ 3<2 ^ 40) (AA ξ ξ));refine xS (lo:=1) (n:=min tb.length (wid tb)) (fun i σ H2=>∃(j l:Option V)(pre:List Int)(b:Int),σ=[some (.ref L),some (.ref T),some (.int b),j,l]/\Same H H2/\H2 T=some (.lst (pre.map V.int))/\pre++go (dv tb) (min tb.length (wid tb)-i) (i+1) b=pf tb/\pre.length<=i/\0<b/\b.natAbs<2 ^ 9000)
   ⟨none,none,[],1,rfl,g.trans C,C _ _ za,rfl,Ae _,ξ,Av (by decide:(1:Int).natAbs<2 ^ 1) (AA ξ ξ)⟩ ?_ ?_
  ·rintro i σ H2 hi ⟨j,l,pre,b,rfl,sm,e,c,O,ap,G⟩
   have W:(1+(i:Int))=((i+1:Nat):Int):=ω
   refine⟨_,rfl,_,rfl,L,rs,tb,i+1,by rw[W];rfl,sm _ _ p,q.same sm,k3,N,hw,ω,fun H3 D=>?_⟩;have a:=D _ _ e;have J:=sm.trans D;have X:min tb.length (wid tb)-i=(min tb.length (wid tb)-(i+1))+1:=ω
   refine⟨_,rfl,rfl,_,rfl,?_⟩;rw[ic]
   by_cases z:dv tb (i+1)=0
   ·rw[QC z,List.append_nil] at c
    rw[decide_eq_true (show eN tb (i+1) (bK (wid tb) (i+1)) 0 (bK tb.length (i+1))=0 from z)];refine aW ⟨_,rfl,?_⟩;rw[c] at a;exact k T H3 J d a
   ·rw[X,QD z] at c
    rw[decide_eq_false (show ¬eN tb (i+1) (bK (wid tb) (i+1)) 0 (bK tb.length (i+1))=0 from z)];refine aR ?_;have nn:=DL (tb:=tb) (m:=i+1);refine⟨_,rfl,.inl ⟨rfl,_,SqL.of a⟩,_,rfl,_,rfl,_,_,rfl,rfl,⟨ap,G⟩,T,_,_,rfl,rfl,a,by rw[sizeLine_eq,Aa];(first|lia|omega),?_⟩;refine⟨_,rfl,some (.int (1+i)),some (.int (dv tb (i+1))),pre++[dv tb (i+1) / b],dv tb (i+1),rfl,J.then d,?_,?_,?_,ω,U _ ω⟩
    ·rw[Aq];exact za
    ·rw[List.append_assoc];exact c
    ·rw[AJ];show pre.length+1<=_;(first|lia|omega)
  ·rintro σ H2 ⟨j,l,pre,b,rfl,sm,e,c,O,ap,G⟩
   rw[Nat.sub_self] at c;have e2:pre=pf tb:=by rw[<-c];exact(List.append_nil _).symm
   rw[e2] at e;exact⟨_,rfl,k T H2 sm d e⟩
end
end K22
end
section
namespace L2
open PySem PySem.Spec PyProof.Rows
section
variable{P:Program}{w:World}{K:Af}{mg:Str->Option Value}{base:Heap}{CX:eP}{k:Nat}{f:Addr}{fd:FuncData}{x:Str}{st:Stmt}{ps:List Str}{sp sq:Sp}
structure Df(K:Af)(x:Str)(st:Stmt)(f:Addr):Prop where
 ex:∃fd,Fun K x x st f fd
 a:PySem.W.nsIn K mainGlobals x=some (some (.ref f))
def GR{i:Value}{j g:Option Addr}{h:Array (Option Value)}{kV d e b ct:Value}(a:PySem.W.nsIn K mainGlobals x=some (some (.ref f)))(l:K.lookup f=some ⟨i,j,.func (PySem.W.fnOf x x (zb1 st) (zal st) (ze st) .none kV d e g b ct),h⟩)(c:PySem.W.codeIn K b x=true)(k:PySem.W.keepIn K (.ref f)=true):Df K x st f:=⟨⟨_,Mm l c k⟩,a⟩
structure Nn(K:Af)(x:Str)(v:Option Value):Prop where
 e:PySem.W.nsIn K mainGlobals x=some v
abbrev BA(x:Str)(st:Stmt)(us:List Value)(r:List (Str×Value)):Prop:=∀(kV aV pm:Value)(an:Option Addr)(ai ct:Value),bindArgs (PySem.W.fnOf x x (zb1 st) (zal st) (ze st) .none kV aV pm an ai ct) ⟨us,[]⟩=pure r
variable{h:Heap}(X:K.In h)(G:h.Ns mainGlobals mg)
include X G
theorem Nn.m{v:Value}(n:Nn K x (some v)):mg x=some v:=PySem.W.mg_of X G n.e
theorem Nn.n(n:Nn K x none):mg x=none:=PySem.W.mg_none_of X G n.e
theorem Df.m(D:Df K x st f):mg x=some (.ref f):=PySem.W.mg_of X G D.a
theorem Df.g1(D:Df K x st f)(p:Str)(hb:∀a,BA x st [a] [(p,a)]:=by exact fun _ _ _ _ _ _ _=>rfl):∃fd,Fun K x x st f fd/\Binds K fd [p] []/\mg x=some (.ref f):=by
 obtain⟨⟨fd,F⟩,a⟩:=D;refine⟨fd,F,F.binds fun _ _ _ _ _ _ us b=>?_,PySem.W.mg_of X G a⟩
 match us,b with
 |[a],_=>exact hb a _ _ _ _ _ _
theorem Df.g2(D:Df K x st f)(p q:Str)(hb:∀a b,BA x st [a,b] [(p,a),(q,b)]:=by exact fun _ _ _ _ _ _ _ _=>rfl):∃fd,Fun K x x st f fd/\Binds K fd [p,q] []/\mg x=some (.ref f):=by
 obtain⟨⟨fd,F⟩,a⟩:=D;refine⟨fd,F,F.binds fun _ _ _ _ _ _ us c=>?_,PySem.W.mg_of X G a⟩
 match us,c with
 |[a,b],_=>exact hb a b _ _ _ _ _ _
theorem Df.g3(D:Df K x st f)(p q r:Str)(hb:∀a b c,BA x st [a,b,c] [(p,a),(q,b),(r,c)]:=by exact fun _ _ _ _ _ _ _ _ _=>rfl):∃fd,Fun K x x st f fd/\Binds K fd [p,q,r] []/\mg x=some (.ref f):=by
 obtain⟨⟨fd,F⟩,a⟩:=D;refine⟨fd,F,F.binds fun _ _ _ _ _ _ us d=>?_,PySem.W.mg_of X G a⟩
 match us,d with
 |[a,b,c],_=>exact hb a b c _ _ _ _ _ _
theorem Df.g4(D:Df K x st f)(p q r s:Str)(hb:∀a b c d,BA x st [a,b,c,d] [(p,a),(q,b),(r,c),(s,d)]:=by exact fun _ _ _ _ _ _ _ _ _ _=>rfl):∃fd,Fun K x x st f fd/\Binds K fd [p,q,r,s] []/\mg x=some (.ref f):=by
 obtain⟨⟨fd,F⟩,a⟩:=D;refine⟨fd,F,F.binds fun _ _ _ _ _ _ us e=>?_,PySem.W.mg_of X G a⟩
 match us,e with
 |[a,b,c,d],_=>exact hb a b c d _ _ _ _ _ _
omit X G
theorem QF{C:Addr}(a:PySem.W.findIn K (.ref C) "__getattribute__"=some (some (.builtin "BaseException.__getattribute__")))(b:PySem.W.findIn K (.ref C) "__getattr__"=some none)(q:PySem.W.excIn K C kL "ValueError.__new__"=true)(c:PySem.W.findIn K (.ref C) "__class__"=some (some (.builtin "object.__class__")))(d:PySem.W.specialIn K (.builtin "object.__class__") "__get__"=some (some (.builtin "getset_descriptor.__get__")))(e:PySem.W.takesIn K (.builtin "object.__class__")=some true)(f:PySem.W.mroIn K C (.type "object")=some true)(g:PySem.W.mroIn K C (.type "BaseException")=some true):ek K C:=
 ⟨a,b,M9 q,c,d,e,f,g⟩
end
end L2
end
section
namespace K22
open PySem L2
abbrev wK:Stmt:=top 25
abbrev wR:Stmt:=top 26
abbrev DM:Stmt:=top 53
abbrev DN:Stmt:=top 59
def dj(n:Int):Bool:=decide (2<=n)&&decide (n<=100)&&(Ah (n-2).toNat).all fun i=>!decide (n%(2+(i:Int))=0)
structure Mk(K:Af)(C f0 f1 f2 f3 f4 f5:Addr)(i:Nat):Prop where
 xc:ek K C
 y0:Bk K (.ref C) (.ref f0)=some (decide (i=0))
 y1:Bk K (.ref C) (.ref f1)=some (decide (i=1))
 y2:Bk K (.ref C) (.ref f2)=some (decide (i=2))
 y3:Bk K (.ref C) (.ref f3)=some (decide (i=3))
 y4:Bk K (.ref C) (.ref f4)=some (decide (i=4))
 y5:Bk K (.ref C) (.ref f5)=some (decide (i=5))
 yv:Bk K (.ref C) (.type "ValueError")=some true
def QG{K:Af}{C h f1 f2 j l o:Addr}{i:Nat}(a:PySem.W.findIn K (.ref C) "__getattribute__"=some (some (.builtin "BaseException.__getattribute__")))(b:PySem.W.findIn K (.ref C) "__getattr__"=some none)(q:PySem.W.excIn K C kL "ValueError.__new__"=true)(c:PySem.W.findIn K (.ref C) "__class__"=some (some (.builtin "object.__class__")))(d:PySem.W.specialIn K (.builtin "object.__class__") "__get__"=some (some (.builtin "getset_descriptor.__get__")))(e:PySem.W.takesIn K (.builtin "object.__class__")=some true)(f:PySem.W.mroIn K C (.type "object")=some true)(g:PySem.W.mroIn K C (.type "BaseException")=some true)(p:Bk K (.ref C) (.ref h)=some (decide (i=0)))(r:Bk K (.ref C) (.ref f1)=some (decide (i=1)))(s:Bk K (.ref C) (.ref f2)=some (decide (i=2)))(u:Bk K (.ref C) (.ref j)=some (decide (i=3)))(v:Bk K (.ref C) (.ref l)=some (decide (i=4)))(w:Bk K (.ref C) (.ref o)=some (decide (i=5)))(x:Bk K (.ref C) (.type "ValueError")=some true):Mk K C h f1 f2 j l o i:=⟨QF a b q c d e f g,p,r,s,u,v,w,x⟩
section
variable{P:Program}{w:World}{K:Af}{mg:Str->Option Value}{base:Heap}
def GS(K:Af)(a f1 f2 b c d:Addr):Sp:=fun vs H Q _=>∃x C i,vs=[.ref x]/\Mk K C a f1 f2 b c d i/\i=2/\H x=some (fD x C)/\∀H',Same H H'->Q (.str "number") H'
def GT:zm ["e","marks"] ["e"] (ze DM):=⟨rfl,rfl,rfl,δ,rfl,δ,δ⟩
def QH{f d f1 f2 g j l:Addr}{fd:FuncData}(F:Fun K "_law_which" "_law_which" DM f fd)(b:mg "isinstance"=none)(N:mg "ValueError"=none)(O:mg "NoTable"=some (.ref d))(m1:mg "NoGoal"=some (.ref f1))(m2:mg "NoNumber"=some (.ref f2))(m3:mg "NoWeb"=some (.ref g))(S:mg "NoChain"=some (.ref j))(T:mg "NoPiece"=some (.ref l)):qU P w K mg base 1 f fd ["e"] (GS K d f1 f2 g j l):=by
 refine F.okN GT (fun vs H Q E h=>?_) (fun U A outer s H vs Q E hr h=>?_)
 ·obtain⟨x,C,i,rfl,_⟩:=h;rfl
 ·obtain⟨x,C,i,rfl,M,hi,hx,k⟩:=h
  refine⟨_,zb (zj (i:=1) GT.nd rfl (Or.inl rfl) (zX (af (zi (kO (c:=.ref d) (fun u h=>h) M.xc M.y0) rfl b zG (af (pv 0) (af (ib (v:=.ref d) rfl O rfl) ah))) (af (zi (kO (c:=.ref f1) (fun u h=>h) M.xc M.y1) rfl b zG (af (pv 0) (af (ib (v:=.ref f1) rfl m1 rfl) ah))) (af (zi (kO (c:=.ref f2) (fun u h=>h) M.xc M.y2) rfl b zG (af (pv 0) (af (ib (v:=.ref f2) rfl m2 rfl) ah))) (af (zi (kO (c:=.ref g) (fun u h=>h) M.xc M.y3) rfl b zG (af (pv 0) (af (ib (v:=.ref g) rfl m3 rfl) ah))) ah))))))
   (zb (zj (i:=1) GT.nd rfl (Or.inl rfl) (zt m4 (pv 1) (zX (af (zi (kO (c:=.ref j) (fun u h=>h) M.xc M.y4) rfl b zG (af (pv 0) (af (ib (v:=.ref j) rfl S rfl) ah))) (af (zi (kO (c:=.ref l) (fun u h=>h) M.xc M.y5) rfl b zG (af (pv 0) (af (ib (v:=.ref l) rfl T rfl) ah))) ah)))))
   (zb (cT (PW.pt (mJ (zw ik (qE PySem.F.plainAttrs_list PySem.F.slot_list_count PySem.F.type_list_count M6 (pv 1) (af mE ah)) zd (av _))
     (pB (jJ (iQ (zi (kO (c:=.ty "ValueError") (fun u h=>h) M.xc M.yv) rfl b zG (af (pv 0) (af (xh (v:=.ty "ValueError") rfl N PyProof.Rows.Boot.«ValueError» rfl) ah))))))))
     (zg (zq pe_str)) zL)
   (zg (zq (zu zr (zX (af pe_str (af pe_str (af pe_str (af pe_str (af pe_str (af pe_str ah)))))))
     (qE PySem.F.plainAttrs_list PySem.F.slot_list_index PySem.F.type_list_index M7 (pv 1) (af mE ah)) (fun _ _=>rfl)))))),?_⟩
  refine⟨_,rfl,x,rfl,hx,_,rfl,x,rfl,hx,_,rfl,x,rfl,hx,_,rfl,x,rfl,hx,zp (by simp),fun p hp=>?_⟩;have r:=Same.new (o:=.lst [.bl (decide (i=0)),.bl (decide (i=1)),.bl (decide (i=2)),.bl (decide (i=3))]) hp;refine⟨_,rfl,_,rfl,x,rfl,r _ _ hx,_,rfl,x,rfl,r _ _ hx,zp (by simp),fun p2 y=>?_⟩;have L:=r.trans (Same.new (o:=.lst [.bl (decide (i=4)),.bl (decide (i=5))]) y);refine⟨p,p2,_,_,rfl,rfl,(Same.new y) _ _ za,za,zp (by simp),fun q I=>?_⟩;have D:=L.trans (Same.new (o:=.lst [.bl (decide (i=0)),.bl (decide (i=1)),.bl (decide (i=2)),.bl (decide (i=3)),.bl (decide (i=4)),.bl (decide (i=5))]) I);subst hi;refine⟨_,rfl,.inl ⟨rfl,_,SqL.of za⟩,q,_,.bl true,rfl,rfl,za,ξ,rfl,rfl,false,(by first|rfl|decide),?_⟩;refine aR ⟨_,rfl,x,rfl,D _ _ hx,true,rfl,aR ⟨zp (by simp),fun J z=>?_⟩⟩;have G:=(Same.new (o:=.lst [.str "table",.str "goal",.str "number",.str "web",.str "chain",.str "piece"]) z) _ _ (za (a:=q));refine⟨_,rfl,.inl ⟨rfl,_,SqL.of G⟩,q,_,.bl true,2,rfl,rfl,G,ξ,rfl,ξ,ξ,(fun m W=>?_),J,_,2,_,rfl,rfl,SqL.of za,rfl,k _ (D.trans (Same.new z))⟩;have:m=0\/m=1:=ω
  rcases this with rfl|rfl<;>decide
def K6:Sp:=fun vs H Q _=>∃n:Int,vs=[.int n]/\∀H',Same H H'->Q (.bl (dj n)) H'
def QI:zm ["number"] ["number"] (ze wR):=⟨rfl,rfl,rfl,δ,rfl,δ,δ⟩
def QJ{H2:Hp}{D:Addr}{n:Nat}{Q:VK}{g:Nat->Bool}{te:TE}{c:List (Option V)}{lo:Int}(h:∀(j:Nat)(H:Hp)(R:VK),R (.bl (g j)) H->te (some (.int (lo+j))::c) H R)(hz:n<=1000)(f:H2 D=none)(k:∀a,Same H2 a->a D=some (.lst (((Ah n).map g).map V.bl))->Q (.ref D) a):cm (eY lo n) (zH 0) bx te (none::c) H2 D Q:=by
 refine nu (fun j σ ys a=>∃(v:Option V),σ=v::c/\Same H2 a/\a D=some (.lst ys)/\ys=(((Ah n).take j).map g).map V.bl) ⟨none,rfl,Same.new f,za,rfl⟩ ?_ ?_
 ·rintro j σ ys a d hy ⟨v,rfl,sm,b,rfl⟩
  have e:(Ah n)[j]?=some j:=AQ d;refine cf (h j a _ (bB (zp ω) d hy b ⟨_,rfl,sm.then f,za,?_⟩));rw[A8 e,Aq,Aq]
  rfl
 ·rintro σ ys a ⟨v,rfl,sm,b,rfl⟩
  rw[An (by simp)] at b;exact k a sm b
def QK{f:Addr}{fd:FuncData}{tp:Tok}(F:Fun K "is_prime" "is_prime" wR f fd)(p:mg "all"=none)(q:mg "range"=none)(r:mg "LAST_PRIME"=some (.int 100 tp)):ar P w K mg base aK 1 f fd ["number"] K6:=by
 refine F.ok QI (fun vs H Q E h=>?_) (fun x A outer s H vs Q E hr h=>?_)
 ·obtain⟨n,rfl,_⟩:=h;rfl
 ·obtain⟨n,rfl,k⟩:=h
  refine⟨_,zg (zq (kf (G1 G0 G0 zd (pv 0) (ib (v:=.int 100) rfl r ⟨_,rfl⟩)) (mK (zi (nq rfl) rfl p nI (af (zx ["number"] ["k","number"] [none,some 0] (xB rfl q (af zd (af (pv 0) ah))) (fun b C s₀ H₀ ex=>zl (i:=0) (bF ["k","number"]) rfl (Or.inl rfl)) (fun b C s₀ H₀ ex=>zA)
   (fun b C s₀ H₀ ex=>iY ik (zt fT (pv 1) (pv 0)) zd (av _)) (te:=bI p8 (bI (rI (fun _ j=>0<j) fun i j=>.int (i%j)) (aw 1) (aw 0)) (tC (.int 0))) (hfr:=a_ (ze wR) δ)) ah))))),?_⟩
  have fin:dj n=false->Q (.bl false) H:=fun e=>by
   have:=k H (Same.refl _)
   rwa [e] at this
  refine⟨_,rfl,_,_,rfl,rfl,_,rfl,?_⟩
  by_cases c:2<=n
  rotate_left
  ·rw[decide_eq_false c]
   exact aR ⟨_,rfl,aR (fin (by unfold dj;rw[decide_eq_false c];rfl))⟩
  rw[decide_eq_true c];refine aW ⟨_,_,rfl,rfl,_,rfl,?_⟩
  by_cases c2:n<=100
  rotate_left
  ·rw[decide_eq_false c2]
   exact aR (fin (by unfold dj;rw[decide_eq_false c2,Bool.and_false];rfl))
  rw[decide_eq_true c2];refine aW ⟨_,rfl,_,_,rfl,⟨ω,ω,ω,ω⟩,fun D d=>?_⟩;refine zy (QJ (lo:=2) (n:=(n-2).toNat) (g:=fun i=>!decide (n%(2+(i:Int))=0)) (fun j H' R l=>⟨_,rfl,_,rfl,_,_,rfl,rfl,(show(0:Int)<2+(j:Int) from ω),rfl,?_⟩) ω d fun u o a=>⟨D,_,rfl,SqL.of a,?_⟩)
  ·rw[ic];exact l
  ·have:=k u o
   have e:dj n=((Ah (n-2).toNat).map fun i:Nat=>!decide (n%(2+(i:Int))=0)).all id:=by
    unfold dj;rw[decide_eq_true c,decide_eq_true c2,List.all_map];rfl
   rwa [e] at this
def cntP(q:Int)(st:List Int):Nat:=(st.filter fun x=>!decide (x%q=0)).length
def K7(a:Addr):Sp:=fun vs H Q E=>∃(L:Addr)(rs:List Addr)(tb:Ξ)(N n m:Nat)(q:Int),vs=[.ref L,.int q]/\H L=some (.lst (rs.map V.ref))/\Rws H rs tb/\cy tb=true/\lH N n m tb.length (wid tb) tb/\
 (dj q=true->∀H' u ub v vb st,Same H H'->Pap tb.length (wid tb) (fn tb) u ub v vb st->Q (.int (cntP q st:Nat)) H')/\(dj q=false->∀H1,Same H H1->∀x,H1 x=none->E (.ref x) (some a) H1)
def QL:zm ["table","prime"] ["table","prime"] (ze wK):=⟨rfl,rfl,rfl,δ,rfl,δ,δ⟩
def QM{f o r fs d:Addr}{fd y z G:FuncData}(F:Fun K "rank_by" "rank_by" wK f fd)(bl:mg "len"=none)(mN:mg "NoNumber"=some (.ref d))(qN:PySem.W.excIn K d kL "ValueError.__new__"=true)(Fm:Fun K "must_be_table" "must_be_table" rx o y)(bm:Binds K y ["table"] [])(mm:mg "must_be_table"=some (.ref o))(Gm:ar P w K mg base aK 3 o y ["table"] (Gh K))(Fp:Fun K "is_prime" "is_prime" wR r z)(bp:Binds K z ["number"] [])(mp:mg "is_prime"=some (.ref r))(Gp:ar P w K mg base aK 1 r z ["number"] K6)(Fs:Fun K "steps_of" "steps_of" oS fs G)(bs:Binds K G ["table"] [])(ms:mg "steps_of"=some (.ref fs))(Gs:ar P w K mg base aK 8 fs G ["table"] (Dx K)):ar P w K mg base (jQ P w) 9 f fd ["table","prime"] (K7 d):=by
 refine F.ok1 QL (fun vs H Q E h=>?_) (fun ai A outer s H vs Q E hr h=>?_)
 ·obtain⟨L,rs,tb,N,n,m,q,rfl,_⟩:=h;rfl
 ·obtain⟨L,rs,tb,N,n,m,q,rfl,O,S,it,ok,k,ke⟩:=h
  have g:Room 1 _:=hr.mono ξ;have l:Room 3 _:=hr.mono ξ;refine⟨_,zb (mO (zf Gm l rfl mm Fm.kp bm .nil ak (af (pv 0) ah)))
   (zb (cT (jJ (iQ (zf Gp g rfl mp Fp.kp bp .nil ak (af (pv 1) ah)))) (zg (Mw (C:=d) (EX:=E) rfl rfl mN qN (fun aa σ H' s' x I hx T U X=>Mt I hx T U (fun a e=>nomatch e) X))) zL)
   (zg (zq (zi zo rfl bl de (af (zx ["table","prime"] ["step","prime"] [none,some 1] (zF (zf Gs hr rfl ms Fs.kp bs .nil ak (af (pv 0) ah))) (fun J C s₀ H₀ ex=>zl (i:=0) (bF ["step","prime"]) rfl (Or.inl rfl))
    (fun J C s₀ H₀ ex=>zc (zw ik (zt fT (pv 0) (pv 1)) zd (av _))) (fun J C s₀ H₀ ex=>pv 0) (tc:=mV (bI p8 (bI (rI (fun _ j=>0<j) fun i j=>.int (i%j)) (aw 0) (aw 1)) (tC (.int 0)))) (hfr:=a_ (ze wK) δ)) ah))))),?_⟩
  refine⟨_,rfl,L,rs,tb,rfl,SqL.of O,S,it,fun H1 Y=>⟨_,rfl,q,rfl,fun H2 Z=>⟨_,rfl,?_⟩⟩⟩;have c:=Y.trans Z;obtain⟨t1,t2,t3⟩:=B' it
  by_cases b:dj q=true
  ·rw[b]
   have n2:2<=q:=by
    have h:=b;unfold dj at h;rw[AU,AU] at h;exact of_decide_eq_true h.1.1
   refine aR ⟨_,rfl,L,rs,tb,N,n,m,rfl,c _ _ O,S.same c,it,ok,fun a H3 u ub v vb st s3 _ M pp=>⟨a,rfl,⟨_,SqL.of M⟩,fun D hD=>?_⟩⟩;refine zy (Ko (p:=fun x=>!decide (x%q=0)) (fun x H' R _ hR=>⟨_,rfl,_,rfl,_,_,rfl,rfl,(show(0:Int)<q from ω),rfl,_,rfl,?_⟩) M (by have:=pp.sk;(first|lia|omega)) hD fun H4 s4 cr=>⟨D,_,rfl,.inl (SqL.of cr),?_⟩)
   ·rw[ic];exact hR
   ·rw[Aa]
    exact k b H4 u ub v vb st (c.trans (s3.trans s4)) pp
  ·rw[Bool.not_eq_true] at b
   rw[b];exact aW fun x hx=>ke b H2 c x hx
def K8:Sp:=fun vs H Q _=>∃(L:Addr)(rs:List Addr)(tb:Ξ)(N n m:Nat)(q:Int),vs=[.ref L,.int q]/\H L=some (.lst (rs.map V.ref))/\Rws H rs tb/\cy tb=true/\lH N n m tb.length (wid tb) tb/\
 (dj q=true->∀H' u ub v vb st,Same H H'->Pap tb.length (wid tb) (fn tb) u ub v vb st->Q (.int (cntP q st:Nat)) H')/\(dj q=false->∀H1,Same H H1->Q (.str "number") H1)
def wZ:zm ["table","prime","told","e"] ["table","prime"] (ze DN):=⟨rfl,rfl,rfl,δ,rfl,δ,δ⟩
def QN{f fr g p f1 f2 r y z C:Addr}{fd G I:FuncData}(F:Fun K "_law_asked" "_law_asked" DN f fd)(Z:mg "SeamError"=some (.ref g))(MN:Mk K f2 p f1 f2 r y z 2)(hN:i9 K f2 g)(Fr:Fun K "rank_by" "rank_by" wK fr G)(br:Binds K G ["table","prime"] [])(mr:mg "rank_by"=some (.ref fr))(Gr:ar P w K mg base (jQ P w) 9 fr G ["table","prime"] (K7 f2))(Fw:Fun K "_law_which" "_law_which" DM C I)(bw:Binds K I ["e"] [])(mw:mg "_law_which"=some (.ref C))(Gw:qU P w K mg base 1 C I ["e"] (GS K p f1 f2 r y z)):ar P w K mg base aK 10 f fd ["table","prime"] K8:=by
 refine F.ok wZ (fun vs H Q E h=>?_) (fun ai A outer s H vs Q E hr h=>?_)
 ·obtain⟨L,rs,tb,N,n,m,q,rfl,_⟩:=h;rfl
 ·obtain⟨L,rs,tb,N,n,m,q,rfl,W,X,it,ok,k,Y⟩:=h
  have o:Room 1 _:=hr.mono ξ;refine⟨_,zb (zj (i:=2) wZ.nd rfl (Or.inl rfl) Lm)
   (zb (MD (ie:=3) (S:=g) rfl wZ.nd rfl rfl rfl rfl rfl Z
    (fun aa EB=>zg (zj (i:=2) wZ.nd rfl (Or.inl rfl) (zf Gr hr rfl mr Fr.kp br .nil (MC rfl) (af (pv 0) (af (pv 1) ah)))))
    (fun aa x=>zg (zj (i:=2) wZ.nd rfl (Or.inl rfl) (ML (E:=E0) Gw (o.mark _) rfl mw Fw.kp bw .nil (af (pv 3) ah)))))
   (zg (zq (pv 2)))),?_⟩
  have HB:∀(D:Ends)(H1:Hp)(x:Addr),H1 x=none->(∀a b H2,Same H1 H2->D.nx [a,b,some (.str "number"),none] H2)->qL K 4 3 g (ee (fY (GS K p f1 f2 r y z) [] E0 (zO (aw 3) bL)) (zH 2)) D (.ref x) (some f2) H1:=by
   intro D H1 x hx J;refine⟨x,f2,rfl,rfl,hN,fun M O=>?_⟩
   match M,O with
   |[a,b,c,d],_=>exact⟨_,rfl,x,f2,2,rfl,MN,rfl,za,fun H2 T=>J a b H2 ((Same.new hx).trans T)⟩
  refine⟨_,rfl,_,rfl,L,rs,tb,N,n,m,q,rfl,W,X,it,ok,fun j H1 u ub v vb st l pp=>⟨_,rfl,k j H1 u ub v vb st l pp⟩,fun j H1 l x hx=>HB _ H1 x hx fun a b H2 U=>⟨_,rfl,Y j H2 (l.trans U)⟩⟩
end
abbrev cH:Stmt:=top 60
abbrev jH:List Str:=["script","box","table","due","handed","turn","found","told","some","prime","good"]
def ue(ns:List Int):SeqAt.shaped (dB ns)=true:=by
 have e:PyData.depth (dB ns)<=64:=by
  have:PyData.depth (dB ns)<=2:=by simp[PyData.depth,PySem.W.ke_depthAll]
  (first|lia|omega)
 unfold SeqAt.shaped;rw[decide_eq_true e,dB,PyData.canLay0,J6]
 rfl
structure Tbl(H:Hp)(p L:Addr)(rs:List Addr)(tb:Ξ):Prop where
 at_:H L=some (.lst (rs.map V.ref))
 rw:Rws H rs tb
 nL:L≠p
 nr:∀d∈rs,d≠p
def Tbl.draw{H H':Hp}{p L:Addr}{rs:List Addr}{tb:Ξ}(h:Tbl H p L rs tb)(s:zah p H H'):Tbl H' p L rs tb:=⟨s _ _ h.nL h.at_,h.rw.sameB s h.nr,h.nL,h.nr⟩
def Tbl.same{H H':Hp}{p L:Addr}{rs:List Addr}{tb:Ξ}(h:Tbl H p L rs tb)(s:Same H H'):Tbl H' p L rs tb:=h.draw (.of s)
def QO{tb:Ξ}{c n:Nat}{m:Int}(h:∀r∈tb,r.length=c/\Bnd m r)(hc:c<=n):wid tb<=n:=by
 cases e:tb with
 |nil=>exact AB _
 |cons r l=>
  rw[e] at h;show r.length<=n;rw[(h r (At ..)).1];exact hc
structure Sta(H:Hp)(p L Du Hd:Addr)(rs hs:List Addr)(tb:Ξ):Prop where
 tl:Tbl H p L rs tb
 hd:Tbl H p Hd hs tb
 du:H Du=some (.lst ((pf tb).map V.int))
 nd:Du≠p
def Sta.draw{H H':Hp}{p L b c:Addr}{rs a:List Addr}{tb:Ξ}(h:Sta H p L b c rs a tb)(s:zah p H H'):Sta H' p L b c rs a tb:=⟨h.tl.draw s,h.hd.draw s,s _ _ h.nd h.du,h.nd⟩
def Sta.same{H H':Hp}{p L b c:Addr}{rs a:List Addr}{tb:Ξ}(h:Sta H p L b c rs a tb)(s:Same H H'):Sta H' p L b c rs a tb:=h.draw (.of s)
def QP{n:Int}(h1:1<n)(h2:n<101):dj n=decide (((Ah ((if(101:Int)<n then 101 else n)-2).toNat).filter fun i:Nat=>decide (n%(2+(i:Int))=0)).length=0):=by
 rw[if_neg ω];unfold dj;rw[decide_eq_true (show 2<=n from ω),decide_eq_true (show n<=100 from ω),Bool.and_self,Bool.true_and,Bool.eq_iff_iff,AY,decide_eq_true_iff,List.length_eq_zero_iff,List.filter_eq_nil_iff];constructor
 ·intro h a b z
  have:=h a b;rw[z] at this;cases this
 ·intro h a b
  have:=h a b;rw[Bool.not_eq_true] at this;rw[this];rfl
def b0(i:Nat):Stmt:=(zal cH).getD i (.Pass ⟨0,0,0,0⟩)
def K9:List Expr:=match b0 7 with
 |.Assign _ (.List E _) _=>E
 |_=>[]
def K_:Expr:=K9.getD 12 (.Constant (.int 0) 0 ⟨0,0,0,0⟩)
abbrev QR(tt:TE):TA:=zO (tC (.int 2)) (zO (tC (.int 3)) (zO (tC (.int 5)) (zO (tC (.int 7)) (zO (tC (.int 97)) (zO (tC (.int 4)) (zO (tC (.int 9)) (zO (tC (.int 1)) (zO (tC (.int 0)) (zO (D9 (rU fun i=>.int (-i)) (tC (.int 1))) (zO (tC (.int 101)) (zO (tC (.int 100)) (zO tt (zO (tC (.int 91)) bL)))))))))))))
def w7:∃(E:List Expr)(b p2 c:Pos),zal cH=[b0 0,b0 1,b0 2,b0 3,b0 4,b0 5,b0 6,.Assign [.Name "some" b] (.List E p2) c,b0 8,b0 9,b0 10,b0 11,b0 12,b0 13]/\∀(X:Cx)(a:TE),PE X K_ a->PA X E (QR a):=
 ⟨K9,_,_,_,rfl,fun X a h=>af zd (af zd (af zd (af zd (af zd (af zd (af zd (af zd (af zd (af (fS fU zd) (af zd (af zd (af h (af zd ah)))))))))))))⟩
section
variable{P:Program}{w:World}{K:Af}{mg:Str->Option Value}{base:Heap}
def K'{neg:Bool}{H:Hp}{p L M:Addr}{rs ms:List Addr}{tb:Ξ}{Z:VK}(h:Tbl H p L rs tb)(g:Tbl H p M ms tb)(k:Z (.bl (if neg then false else true)) H):fO neg K (.ref L) (.ref M) H Z:=by
 refine⟨cF tb,cF tb,kb (SqL.of h.at_) h.rw,kb (SqL.of g.at_) g.rw,oN _,oN _,F' _ _,?_⟩;rw[Ds,decide_eq_true rfl];cases neg<;>exact k
def QT{H:Hp}{a b:Addr}{st:List Int}{Z:VK}(c:H a=some (.lst (st.map V.int)))(hb:H b=some (.lst (st.map V.int)))(k:Z (.bl false) H):fO true K (.ref a) (.ref b) H Z:=by
 refine⟨dB st,dB st,Ga (SqL.of c),Ga (SqL.of hb),ue _,ue _,Pn _ _,?_⟩;rw[if_pos rfl,J3,decide_eq_true rfl];exact k
def DO(K:Af):Sp:=fun vs H Q _=>∃(a:Addr)(ns:List Int),vs=[.ref a]/\SqL K H a (ns.map V.int)/\ns.length<=63/\∀H',Q (.bl true) H'
def fQ:zm jH ["script"] (ze cH):=⟨rfl,rfl,rfl,δ,rfl,δ,δ⟩
def QW{f fc fb ft n_ kh fs fk lK mD kY:Addr}{fd bD kA bQ gw gl aD gT gf gH gR:FuncData}(F:Fun K "law" "law" cH f fd)(B:gi mg)(jI:mg "min"=none)(Fc:Fun K "_law_cell_at" "_law_cell_at" Dy fc bD)(bc:Binds K bD ["script","k"] [])(mc:mg "_law_cell_at"=some (.ref fc))(Fb:Fun K "_law_box" "_law_box" jB fb kA)(bb:Binds K kA ["cell"] [])(mb:mg "_law_box"=some (.ref fb))(Ft:Fun K "_law_take" "_law_take" oT ft bQ)(bt:Binds K bQ ["box","most"] [])(mt:mg "_law_take"=some (.ref ft))(Ftb:Fun K "_law_table" "_law_table" jE n_ gw)(sf:Binds K gw ["box","most"] [])(rC:mg "_law_table"=some (.ref n_))(kE:ar P w K mg base aK 3 n_ gw ["box","most"] Ki)(Fst:Fun K "_law_steps" "_law_steps" DK kh gl)(x9:Binds K gl ["table"] [])(xu:mg "_law_steps"=some (.ref kh))(ng:ar P w K mg base aK 6 kh gl ["table"] (K5 K))(Fs:Fun K "steps_of" "steps_of" oS fs aD)(bs:Binds K aD ["table"] [])(ms:mg "steps_of"=some (.ref fs))(Gs:ar P w K mg base aK 8 fs aD ["table"] (Dx K))(Fk:Fun K "rank" "rank" Dv fk gT)(bk:Binds K gT ["table"] [])(mk:mg "rank"=some (.ref fk))(Gk:ar P w K mg base aK 9 fk gT ["table"] (Kb K))(Frl:Fun K "_law_row_like" "_law_row_like" Dz lK gf)(sE:Binds K gf ["found"] [])(vP:mg "_law_row_like"=some (.ref lK))(mG:ar P w K mg base aK 2 lK gf ["found"] Kl)(Fwh:Fun K "_law_whole" "_law_whole" wh mD gH)(pE:Binds K gH ["found"] [])(o_:mg "_law_whole"=some (.ref mD))(oo:ar P w K mg base aK 1 mD gH ["found"] DA)(Fas:Fun K "_law_asked" "_law_asked" DN kY gR)(xR:Binds K gR ["table","prime"] [])(vk:mg "_law_asked"=some (.ref kY))(l5:ar P w K mg base aK 10 kY gR ["table","prime"] K8):ar P w K mg base aK 11 f fd ["script"] (DO K):=by
 have Gc:ar P w K mg base aK 1 fc bD ["script","k"] (Kd K):=PD Fc B;have Gb:ar P w K mg base aK 1 fb kA ["cell"] Ke:=PH Fb;have Gt:ar P w K mg base aK 1 ft bQ ["box","most"] v3:=Gn Ft;refine F.ok fQ (fun vs H Q E h=>?_) (fun ai A outer s H vs Q E hr h=>?_)
 ·obtain⟨a,ns,rfl,_⟩:=h;rfl
 ·obtain⟨a,ns,rfl,M,hn,k⟩:=h
  have bE:=hr.units;have N:Room 1 _:=hr.mono ξ;have eA:Room 2 _:=hr.mono ξ;have hr3:Room 3 _:=hr.mono ξ;have jN:Room 6 _:=hr.mono ξ;have vz:Room 8 _:=hr.mono ξ;have xT:Room 9 _:=hr.mono ξ;obtain⟨EL,p1,p2,p3,rF,nT⟩:=w7;rw[rF];have tP:∃U,PSs (bG aK P w K mg base jH "law" (ze cH) f ai A outer s H E).nox [b0 11,b0 12,b0 13] U/\∀(p L G l:Addr)(rs M:List Addr)(tb:Ξ)(pr:Int)(I J T v8:Option V)(H':Hp),
    Sta H' p L G l rs M tb->cy tb=true->wo tb->tb.length<=3->wid tb<=3->
    U {nx:=fun _ H'=>Q .non H',rt:=Q} [some (.ref a),some (.ref p),some (.ref L),some (.ref G),some (.ref l),I,J,T,v8,some (.int pr),some (.bl (dj pr))] H':=by
   refine⟨_,zb (zj (i:=7) fQ.nd rfl (Or.inl rfl) (zf l5 hr rfl vk Fas.kp xR .nil ak (af (pv 4) (af (pv 9) ah))))
    (zb (cT (jJ (iQ (pv 10))) (zg (zq (iY fX (pv 7) pe_str (av _)))) zL)
    (zg (zq (kf (zf oo N rfl o_ Fwh.kp pE .nil ak (af (pv 7) ah)) (kf (iY fX (pv 7) (zi zo rfl B.len de (af (zx jH ["one","prime"] [none,some 9] (zF (pv 3)) (fun Y C s₀ H₀ ex=>zl (i:=0) (bF ["one","prime"]) rfl (Or.inl rfl))
     (fun Y C s₀ H₀ ex=>zc (zw ik (zt fT (pv 0) (pv 1)) zd (av _))) (fun Y C s₀ H₀ ex=>pv 0) (tc:=mV (bI p8 (bI (rI (fun _ j=>0<j) fun i j=>.int (i%j)) (aw 0) (aw 1)) (tC (.int 0)))) (hfr:=a_ (ze cH) δ)) ah)) (av _)) (mK (iY (FX bE) (pv 4) (pv 2) (av _)))))))),?_⟩
   intro p L G l rs M tb pr I J T v8 H0 S it ⟨gN,gn,gm,ok⟩ W O;refine⟨_,rfl,_,rfl,l,M,tb,gN,gn,gm,pr,rfl,S.hd.at_,S.hd.rw,it,ok,fun hP H1 u ub v vb st s1 pp=>?_,fun hP H1 s1=>?_⟩
   ·have e:=GQ pp W O
    subst e;have S1:=S.same s1;have n2:2<=pr:=by
     have h:=hP;unfold dj at h;rw[AU,AU] at h;exact of_decide_eq_true h.1.1
    refine⟨_,rfl,_,rfl,?_⟩;rw[hP];refine aR ⟨_,rfl,_,rfl,_,rfl,aW ⟨_,rfl,_,rfl,G,rfl,⟨_,SqL.of S1.du⟩,fun D hD=>?_⟩⟩;refine zy (Ko (p:=fun x=>!decide (x%pr=0)) (fun x H' R _ hR=>⟨_,rfl,_,rfl,_,_,rfl,rfl,(show(0:Int)<pr from ω),rfl,_,rfl,?_⟩) S1.du (by have:=pp.sk;(first|lia|omega)) hD fun H4 s4 cr=>⟨D,_,rfl,.inl (SqL.of cr),rfl,_,rfl,?_⟩)
    ·rw[ic];exact hR
    ·rw[Aa,ic]
     unfold cntP;rw[decide_eq_true rfl];exact aW ⟨_,rfl,_,rfl,K' (S1.same s4).hd (S1.same s4).tl (k _)⟩
   ·refine⟨_,rfl,_,rfl,?_⟩
    rw[hP];refine aW ⟨_,rfl,rfl,?_⟩;rw[decide_eq_true rfl];exact k _
  obtain⟨k_,jl,my⟩:=tP;have yw:∃U,PSs (bG aK P w K mg base jH "law" (ze cH) f ai A outer s H E).nox [b0 10,b0 11,b0 12,b0 13] U/\∀(p L G l:Addr)(rs M:List Addr)(tb:Ξ)(pr:Int)(I J T v8:Option V)(H':Hp),
    Sta H' p L G l rs M tb->cy tb=true->wo tb->tb.length<=3->wid tb<=3->
    U {nx:=fun _ H'=>Q .non H',rt:=Q} [some (.ref a),some (.ref p),some (.ref L),some (.ref G),some (.ref l),I,J,T,v8,some (.int pr),none] H':=by
   refine⟨_,zb (zj (i:=10) fQ.nd rfl (Or.inl rfl) (kf (G1 p_ p_ zd (pv 9) zd) (mK (iY fX (zi zo rfl B.len de (af (zx jH ["one","prime"] [none,some 9] (xB rfl B.range (af zd (af (zi (G3 rfl) rfl jI J' (af (pv 9) (af zd ah))) ah))) (fun Y C s₀ H₀ ex=>zl (i:=0) (bF ["one","prime"]) rfl (Or.inl rfl))
     (fun Y C s₀ H₀ ex=>zc (zw fX (zt fT (pv 1) (pv 0)) zd (av _))) (fun Y C s₀ H₀ ex=>pv 0) (tc:=mV (bI Ea (bI (rI (fun _ j=>0<j) fun i j=>.int (i%j)) (aw 1) (aw 0)) (tC (.int 0)))) (hfr:=a_ (ze cH) δ)) ah)) zd (av _))))) jl,?_⟩
   intro p L G l rs M tb pr I J T v8 H0 S it ok W O;have K1:=fun(H':Hp)(s':Same H0 H')=>my p L G l rs M tb pr I J T v8 H' (S.same s') it ok W O;refine⟨_,rfl,_,_,rfl,rfl,_,rfl,?_⟩
   by_cases c1:1<pr
   rotate_left
   ·rw[decide_eq_false c1]
    have e:dj pr=false:=by unfold dj;rw[decide_eq_false (show ¬2<=pr from ω)];rfl
    have:=K1 _ (Same.refl _);rw[e] at this;exact aR ⟨_,rfl,aR this⟩
   rw[decide_eq_true c1];refine aW ⟨_,_,rfl,rfl,_,rfl,?_⟩
   by_cases c2:pr<101
   rotate_left
   ·rw[decide_eq_false c2]
    have e:dj pr=false:=by unfold dj;rw[decide_eq_false (show ¬pr<=100 from ω),Bool.and_false];rfl
    have:=K1 _ (Same.refl _);rw[e] at this;exact aR this
   rw[decide_eq_true c2];have ei:(if(101:Int)<pr then(101:Int) else pr)=pr:=if_neg ω;refine aW ⟨_,rfl,_,_,rfl,_,_,rfl,⟨by first|decide|(rw[ei];(first|lia|omega)),by first|decide|(rw[ei];(first|lia|omega)),by first|decide|(rw[ei];(first|lia|omega)),by first|decide|(rw[ei];(first|lia|omega))⟩,fun D hD=>?_⟩;refine zy (P4 (p:=fun i=>decide (pr%(2+(i:Int))=0)) (fun i H' R hi _ hR=>⟨_,rfl,_,rfl,_,_,rfl,rfl,(show(0:Int)<2+(i:Int) from ω),rfl,_,rfl,?_⟩) (by rw[ei];(first|lia|omega)) hD fun H3 s3 hD3=>⟨D,_,rfl,.inl (SqL.of hD3),rfl,?_⟩)
   ·rw[ic];exact hR
   ·have:=K1 _ s3
    rw[QP c1 c2] at this;rw[Aa,ic];refine(congrArg (fun b=>k_ _ [_,_,_,_,_,_,_,_,_,_,some (V.bl b)] H3) ?_).mp this;rw[Bool.eq_iff_iff,decide_eq_true_iff,decide_eq_true_iff];exact⟨fun z=>ω,fun z=>ω⟩
  obtain⟨uf,jm,i4⟩:=yw;have T8:∃U,PSs (bG aK P w K mg base jH "law" (ze cH) f ai A outer s H E).nox [b0 8,b0 9,b0 10,b0 11,b0 12,b0 13] U/\∀(p L G l S':Addr)(rs M:List Addr)(tb:Ξ)(Z:Int)(I J T:Option V)(H':Hp),
    Sta H' p L G l rs M tb->cy tb=true->wo tb->tb.length<=3->wid tb<=3->zS H' p->S'≠p->H' S'=some (.lst [.int 2,.int 3,.int 5,.int 7,.int 97,.int 4,.int 9,.int 1,.int 0,.int (-1),.int 101,.int 100,.int Z,.int 91])->
    U {nx:=fun _ H'=>Q .non H',rt:=Q} [some (.ref a),some (.ref p),some (.ref L),some (.ref G),some (.ref l),I,J,T,some (.ref S'),none,none] H':=by
   refine⟨_,zb (zj (i:=9) fQ.nd rfl (Or.inr rfl) (zu zr (pv 8) (zf Gt N rfl mt Ft.kp bt .nil ak (af (pv 1) (af zd ah))) (fun _ _=>rfl)))
    (zb (cT (zw fX (zf Gt N rfl mt Ft.kp bt .nil ak (af (pv 1) (af zd ah))) zd (av _))
     (zg (zj (i:=9) fQ.nd rfl (Or.inr rfl) (zt iU (zu zr (zX (af (fS fU zd) (af zd ah))) (zf Gt N rfl mt Ft.kp bt .nil ak (af (pv 1) (af zd ah))) (fun _ _=>rfl)) (zt dU zd (zf Gt N rfl mt Ft.kp bt .nil ak (af (pv 1) (af (zt x3 zd zd) ah))))))) zL) jm),?_⟩
   intro p L G l S' rs M tb Z I J T H0 S it ok W O hb nS hS;refine⟨_,rfl,_,rfl,p,_,rfl,hb,ξ,ξ,fun z H1 z0 z1 gW ej=>?_⟩;obtain⟨pr,u7⟩:∃pr:Int,atI [V.int 2,.int 3,.int 5,.int 7,.int 97,.int 4,.int 9,.int 1,.int 0,.int (-1),.int 101,.int 100,.int Z,.int 91] z=some (.int pr):=by
    have:z=0\/z=1\/z=2\/z=3\/z=4\/z=5\/z=6\/z=7\/z=8\/z=9\/z=10\/z=11\/z=12\/z=13:=ω
    rcases this with rfl|rfl|rfl|rfl|rfl|rfl|rfl|rfl|rfl|rfl|rfl|rfl|rfl|rfl
    all_goals exact⟨_,rfl⟩
   refine⟨S',_,_,_,rfl,rfl,SqL.of (gW _ _ nS hS),u7,?_⟩;have S1:=S.draw gW;refine⟨_,rfl,p,_,rfl,ej,ξ,ξ,fun z2 H2 _ _ fI c8=>⟨rfl,_,rfl,?_⟩⟩;have S2:=S1.draw fI;refine eh (fun _=>?_) (fun _=>?_)
   ·refine⟨_,rfl,zp (by simp),fun q hq=>?_⟩
    have s3:=Same.new (o:=.lst [.int (-1*3),.int 101]) hq;have tR:q≠p:=hZ c8 hq;refine⟨_,rfl,p,_,rfl,c8.new hq,ξ,ξ,fun z3 H3 y0 y1 gQ X=>?_⟩;obtain⟨g,eg,gb⟩:∃g:Int,atI [V.int (-3),.int 101] z3=some (.int g)/\(-(2 ^ 64)<g/\g<2 ^ 64):=by
     have:z3=0\/z3=1:=ω
     rcases this with rfl|rfl
     ·exact⟨-3,rfl,ξ⟩
     ·exact⟨101,rfl,ξ⟩
    refine⟨q,_,_,_,rfl,rfl,SqL.of (gQ _ _ tR za),eg,?_⟩;have hc:kw 10 9:=⟨ξ,ξ,ξ⟩;refine⟨_,rfl,_,_,rfl,rfl,hc,p,_,rfl,X,(by show(0:Int)<10 ^ (9:Int).toNat;decide),(by show(10:Int) ^ (9:Int).toNat<1073741824;decide),fun z4 H4 _ _ dw dJ=>⟨_,_,rfl,rfl,_,_,rfl,rfl,.inl gb,?_⟩⟩;exact i4 p L G l rs M tb _ I J T _ H4 (((S2.draw (.of (Same.new hq))).draw gQ).draw dw) it ok W O
   ·exact i4 p L G l rs M tb pr I J T _ H2 S2 it ok W O
  obtain⟨B7,lY,rO⟩:=T8;have uE:PE (bG aK P w K mg base jH "law" (ze cH) f ai A outer s H E).nox K_ _:=zt fy zd (zt iU zd (zf Gt N rfl mt Ft.kp bt .nil ak (af (pv 1) (af zd ah))));have T5:∃U,PSs (bG aK P w K mg base jH "law" (ze cH) f ai A outer s H E).nox [b0 5,b0 6,.Assign [.Name "some" p1] (.List EL p2) p3,b0 8,b0 9,b0 10,b0 11,b0 12,b0 13] U/\∀(p L G l:Addr)(rs M:List Addr)(tb:Ξ)(I J:Option V)(H':Hp),
    Sta H' p L G l rs M tb->cy tb=true->wo tb->tb.length<=3->wid tb<=3->zS H' p->
    U {nx:=fun _ H'=>Q .non H',rt:=Q} [some (.ref a),some (.ref p),some (.ref L),some (.ref G),some (.ref l),I,J,none,none,none,none] H':=by
   refine⟨_,zb (zj (i:=7) fQ.nd rfl (Or.inl rfl) (zf Gk xT rfl mk Fk.kp bk .nil ak (af (pv 4) ah)))
    (zb (cT (PW.pt (mJ (jJ (iQ (zf oo N rfl o_ Fwh.kp pE .nil ak (af (pv 7) ah)))) (pB (zw ik (pv 7) (zi zo rfl B.len de (af (pv 3) ah)) (av _))))) (zg (zq mE)) zL)
    (zb (zj (i:=8) fQ.nd rfl (Or.inl rfl) (zX (nT _ _ uE))) lY)),?_⟩
   intro p L G l rs M tb I J H0 S it ⟨gN,gn,gm,ok⟩ W O hb;refine⟨_,rfl,l,M,tb,gN,gn,gm,rfl,S.hd.at_,S.hd.rw,it,ok,fun H1 u ub v vb st s1 pp=>?_⟩;have e:=GQ pp W O;subst e;have S1:=S.same s1;refine⟨_,rfl,_,rfl,_,rfl,aR ⟨_,rfl,_,rfl,G,_,rfl,.inl (SqL.of S1.du),rfl,_,rfl,?_⟩⟩;rw[Aa,decide_eq_true rfl];refine aR ⟨_,rfl,_,rfl,p,_,rfl,hb.same s1,ξ,ξ,fun z H2 z0 z1 fI c8=>⟨_,_,rfl,rfl,.inl ⟨ξ,ξ⟩,_,_,rfl,rfl,zp (by simp),fun S' hS=>?_⟩⟩;exact rO p L G l S' rs M tb _ I J _ _ ((S1.draw fI).same (Same.new hS)) it ⟨gN,gn,gm,ok⟩ W O (c8.new hS) (hZ c8 hS) za
  obtain⟨Cl,ko,wH⟩:=T5;refine⟨_,zb (zj (i:=1) fQ.nd rfl (Or.inl rfl) (zf Gb N rfl mb Fb.kp bb .nil ak (af (zf Gc N rfl mc Fc.kp bc .nil ak (af (pv 0) (af zd ah))) ah)))
   (zb (zj (i:=2) fQ.nd rfl (Or.inl rfl) (zf kE hr3 rfl rC Ftb.kp sf .nil ak (af (pv 1) (af zd ah))))
   (zb (zj (i:=3) fQ.nd rfl (Or.inl rfl) (zf ng jN rfl xu Fst.kp x9 .nil ak (af (pv 2) ah)))
   (zb (nH (i:=4) fQ.nd rfl (Or.inl rfl) jH ["row"] [none] (zF (pv 2)) (fun Y C s₀ H₀ ex=>zl (i:=0) (bF ["row"]) rfl (Or.inl rfl)) (fun Y C s₀ H₀ ex=>zA) (fun Y C s₀ H₀ ex=>qf yh rfl B.list Kj (af (pv 0) ah)) (te:=Kp K) (hfr:=cU δ))
   (zb (fh A0 rfl (kn rfl B.range (af zd ah)) (zl (i:=5) fQ.nd rfl (Or.inl rfl))
    (zb (zj (i:=6) fQ.nd rfl (Or.inl rfl) (zf Gs vz rfl ms Fs.kp bs .nil ak (af (pv 4) ah)))
    (zb (cT (PW.pt (mJ (jJ (iQ (zf mG eA rfl vP Frl.kp sE .nil ak (af (pv 6) ah)))) (mJ (zw (FY bE) (pv 6) (pv 3) (av _)) (pB (zw (FY bE) (pv 4) (pv 2) (av _)))))) (zg (zq mE)) zL)
    (zg (mO (qE PySem.F.plainAttrs_list PySem.F.slot_list_append PySem.F.type_list_append yJ (pv 6) (af zd ah))))))) ko)))),?_⟩
  refine⟨_,rfl,a,ns,0,rfl,M,fun n1=>⟨n1,rfl,fun p x y hp fG=>?_⟩⟩;have ej:zS (upd H p (.lst [.int x,.int y])) p:=⟨x,y,za,fG⟩;refine⟨_,rfl,p,3,rfl,ξ,ej,fun L H2 c n hc dM T1=>?_⟩;obtain⟨ds,tb,fI,X,hF,cY,hl,kP,vR,h0⟩:=T1;have va:L≠p:=hZ ej h0;have dp:∀d∈ds,d≠p:=fun d hd=>hZ ej (vR d hd).1;obtain⟨i1,i2,i3⟩:=P' wn kP ω ω ξ;have O:=QO kP (show c<=3 from ω);obtain⟨t1,t2,t3⟩:=B' i1;have lj:Tbl H2 p L ds tb:=⟨hF,cY,va,dp⟩;refine⟨_,rfl,L,ds,tb,rfl,hF,cY,ω,O,fun r hr=>⟨t3 r hr,(kP r hr).2⟩,fun G H3 s3 yp nU=>?_⟩;have tl3:=lj.same s3;refine⟨_,rfl,L,rfl,⟨_,SqL.of tl3.at_⟩,fun l qt=>zy (P6 (SqL.of tl3.at_) tl3.rw ω qt fun H4 es s4 mP yz _ n4=>?_)⟩;have gB:=X.same s3;have S4:Sta H4 p L G l ds es tb:=⟨tl3.same s4,⟨mP,yz,hZ gB qt,fun d hd=>hZ gB (n4 d hd).1⟩,s4 _ _ nU,hZ X yp⟩;have dJ:=gB.same s4;refine⟨_,rfl,ξ,ξ,xS (lo:=0) (n:=2) (fun i σ H5=>∃(I J:Option V),σ=[some (.ref a),some (.ref p),some (.ref L),some (.ref G),some (.ref l),I,J,none,none,none,none]/\Same H4 H5) ⟨none,none,rfl,Same.refl _⟩ ?_ ?_⟩
  ·rintro i σ H5 hi ⟨I,J,rfl,s5⟩
   have S5:=S4.same s5;obtain⟨gN,gn,gm,ok⟩:=id i2;refine⟨_,rfl,l,es,tb,gN,gn,gm,rfl,S5.hd.at_,S5.hd.rw,i1,ok,fun b H6 u ub v vb st s6 jD eK pp=>?_⟩;have e:=GQ pp ω O;have S6:=S5.same s6;have ls:=pp.sk;refine⟨_,rfl,b,st,rfl,eK,ω,fun H7 s7=>⟨_,rfl,aR ⟨_,rfl,_,rfl,QT (s7 _ _ eK) (by rw[<-e];exact s7 _ _ S6.du) ⟨_,rfl,aR ⟨_,rfl,_,rfl,K' (neg:=true) (S6.same s7).hd (S6.same s7).tl ⟨_,rfl,aR ?_⟩⟩⟩⟩⟩⟩;refine⟨_,rfl,.inl ⟨rfl,_,SqL.of (s7 _ _ eK)⟩,b,_,_,rfl,rfl,s7 _ _ eK,by rw[sizeLine_eq,Aa];(first|lia|omega),?_⟩;exact⟨_,_,rfl,(s5.trans (s6.trans s7)).then (s5.free jD)⟩
  ·rintro σ H5 ⟨I,J,rfl,s5⟩
   exact wH p L G l ds es tb I J H5 (S4.same s5) i1 i2 ω O (dJ.same s5)
end
end K22
end
section
namespace K22
open PySem L2
def QX{l:PySem.W.OpenLaw}{w:World}{K:Af}{h:Heap}{mg:Str->Option Value}{fa f1 f2 f3 f4 f5 f6 f7 f8 f9 yx uV yY um ve uQ yy wL xj r_ wQ vg yj su r9 xY vO vq uc yH vB uY rM sI vI ux yu tJ wl rR xJ x_ uN yr yq vY tQ e0 e1 e2 e3 e4 e5 eS:Addr}{tr tc tp:Tok}(X:K.In h)(G:h.Ns mainGlobals mg)(sj:mg "law"=some (.ref fa))(d1:Df K "is_table" rv f1)(d2:Df K "width_of" kT f2)(d3:Df K "must_be_table" rx f3)(d4:Df K "columns_of" ry f4)(d5:Df K "columns_to" nO f5)(d6:Df K "column_of" gM f6)(d7:Df K "stepped" Dt f7)(d8:Df K "are_steps" C7 f8)(d9:Df K "on_slope" tU f9)(gE:Df K "slope_row" tM yx)(yK:Df K "steps_of" oS uV)(yI:Df K "rank" Dv yY)(wf:Df K "paper_of" Dm um)(yM:Df K "is_in_steps" C9 ve)(wg:Df K "unit" C6 uQ)(uX:Df K "is_on_slope" uA yy)(ui:Df K "slope_of" uJ wL)(rD:Df K "straightened" dz xj)(vn:Df K "echelon_of" jo r_)(x5:Df K "take_in" C5 wQ)(tu:Df K "reduced" jd vg)(yS:Df K "less" j4 yj)(vA:Df K "first_place" CP su)(vU:Df K "divisor_pair" sQ r9)(xi:Df K "mix_of_two" rZ xY)(wW:Df K "mix_of" jp vO)(uG:Df K "shares_of" jf vq)(vL:Df K "slid" C8 uc)(xk:Df K "rank_by" wK yH)(rL:Df K "is_prime" wR vB)(vh:Df K "_law_cell_at" Dy uY)(uz:Df K "_law_box" jB rM)(u5:Df K "_law_take" oT sI)(yB:Df K "_law_row" hX vI)(yo:Df K "_law_table" jE ux)(tS:Df K "_law_wide" v' yu)(yD:Df K "_law_whole" wh tJ)(ua:Df K "_law_row_like" Dz wl)(u_:Df K "_law_which" DM rR)(sY:Df K "_law_common" DD xJ)(wq:Df K "_law_determinant" h5 x_)(uR:Df K "_law_choices" ww uN)(yd:Df K "_law_divisor" wG yr)(uj:Df K "_law_steps" DK yq)(tG:Df K "_law_asked" DN vY)(pX:Df K "law" cH tQ)(gr:Nn K "MOST_ROWS" (some (.int 40 tr)))(gc:Nn K "MOST_COLUMNS" (some (.int 40 tc)))(gp:Nn K "LAST_PRIME" (some (.int 100 tp)))(tK:Nn K "NoTable" (some (.ref e0)))(tY:Nn K "NoGoal" (some (.ref e1)))(oK:Nn K "NoNumber" (some (.ref e2)))(wA:Nn K "NoWeb" (some (.ref e3)))(yt:Nn K "NoChain" (some (.ref e4)))(tW:Nn K "NoPiece" (some (.ref e5)))(u8:Nn K "SeamError" (some (.ref eS)))(q2:PySem.W.excIn K e2 kL "ValueError.__new__"=true)(M2:Mk K e2 e0 e1 e2 e3 e4 e5 2)(S2:i9 K e2 eS)(z1:Nn K "len" none)(z2:Nn K "all" none)(z3:Nn K "zip" none)(z4:Nn K "sum" none)(z5:Nn K "range" none)(z6:Nn K "list" none)(z7:Nn K "int" none)(z8:Nn K "bool" none)(z9:Nn K "isinstance" none)(s_:Nn K "max" none)(xz:Nn K "sorted" none)(yL:Nn K "tuple" none)(xg:Nn K "enumerate" none)(F:Nn K "min" none)(xG:Nn K "ValueError" none)(wM:Nn K "abs" none):∃fd:FuncData,(∀(s:Shared)(v:Value),BindsTo s fd ⟨[v],[]⟩ [("script",v)])/\∀base:Heap,K.In base->base.Ns mainGlobals mg->ar l.prog w K mg base aK 11 fa fd ["script"] (DO K):=by
 cases sj.symm.trans (pX.m X G);have B:gi mg:=⟨z1.n X G,z2.n X G,z3.n X G,z4.n X G,z5.n X G,z6.n X G,z7.n X G,z8.n X G,z9.n X G,s_.n X G⟩;obtain⟨g1,F1,b1,m1⟩:=d1.g1 X G "table";obtain⟨g2,b,c,m2⟩:=d2.g1 X G "table";obtain⟨g3,H,L,m3⟩:=d3.g1 X G "table";obtain⟨g4,I,M,N⟩:=d4.g1 X G "table";obtain⟨g5,J,O,Q⟩:=d5.g2 X G "table" "width";obtain⟨g6,F6,b6,m6⟩:=d6.g2 X G "table" "k";obtain⟨g7,F7,b7,m7⟩:=d7.g1 X G "table";obtain⟨g8,F8,b8,m8⟩:=d8.g2 X G "steps" "most";obtain⟨g9,F9,b9,m9⟩:=d9.g3 X G "numbers" "size" "width";obtain⟨Cd,j,S,T⟩:=gE.g3 X G "numbers" "k" "width";obtain⟨BU,d,o,p⟩:=yK.g1 X G "table";obtain⟨CL,U,vi,qV⟩:=yI.g1 X G "table";obtain⟨BC,Y,xL,vX⟩:=wf.g2 X G "table" "width";obtain⟨Cw,Z,t7,uF⟩:=yM.g1 X G "table";obtain⟨BJ,pA,tZ,wy⟩:=wg.g1 X G "size";obtain⟨BB,q,oY,qM⟩:=uX.g1 X G "table";obtain⟨BS,r,qH,p6⟩:=ui.g1 X G "table";obtain⟨BY,qJ,uu,xH⟩:=rD.g2 X G "side" "width";obtain⟨BL,qG,uD,vG⟩:=vn.g1 X G "rows";obtain⟨Bq,oh,yR,yQ⟩:=x5.g2 X G "found" "row";obtain⟨BP,oU,uq,uy⟩:=tu.g3 X G "row" "found" "places";obtain⟨CH,a,f,g⟩:=yS.g3 X G "row" "often" "other";obtain⟨Cm,pD,vM,yG⟩:=vA.g1 X G "row";obtain⟨Ct,pc,uH,tD⟩:=vU.g2 X G "one" "other";obtain⟨Co,oM,wI,vD⟩:=xi.g4 X G "often" "row" "other_often" "other";obtain⟨BD,qg,wk,yC⟩:=wW.g2 X G "numbers" "rows";obtain⟨BG,oH,xx,yF⟩:=uG.g2 X G "row" "found";obtain⟨Bx,qm,u6,uW⟩:=vL.g2 X G "side" "count";obtain⟨B9,oW,xZ,wX⟩:=xk.g2 X G "table" "prime";obtain⟨Ck,qQ,wx,rX⟩:=rL.g1 X G "number";obtain⟨y8,xm,v9,vd⟩:=vh.g2 X G "script" "k";obtain⟨z_,yn,yf,uI⟩:=uz.g1 X G "cell";obtain⟨Ca,u,x,y⟩:=u5.g2 X G "box" "most";obtain⟨Cc,qa,xC,sK⟩:=yB.g3 X G "box" "columns" "wide";obtain⟨B_,qb,yA,sA⟩:=yo.g2 X G "box" "most";obtain⟨Bu,z,oJ,qc⟩:=tS.g1 X G "table";obtain⟨BF,A,oX,oq⟩:=yD.g1 X G "found";obtain⟨CI,pk,t9,xo⟩:=ua.g1 X G "found";obtain⟨BQ,qu,rm,xD⟩:=u_.g1 X G "e";obtain⟨Cp,pJ,rN,C⟩:=sY.g2 X G "one" "other";obtain⟨Cy,xU,wa,sJ⟩:=wq.g1 X G "rows";obtain⟨B5,pI,ya,wO⟩:=uR.g2 X G "size" "many";obtain⟨CB,pV,rA,vJ⟩:=yd.g2 X G "table" "many";obtain⟨BV,pF,sO,ut⟩:=uj.g1 X G "table";obtain⟨B6,qi,xO,vj⟩:=tG.g2 X G "table" "prime";obtain⟨⟨gL,FL⟩,_⟩:=pX;refine⟨gL,?_,fun base _ _=>?_⟩
 ·obtain⟨_,_,_,_,_,_,_,_,_,rfl,_,_⟩:=FL.ex;exact fun s v=>.of_eq rfl
 have D:=xz.n X G;have we:=yL.n X G;have qO:=xg.n X G;have jI:=F.n X G;have nr:=gr.m X G;have nc:=gc.m X G;have Gw:=EE (P:=l.prog) (w:=w) (mg:=mg) (base:=base) b B.len;have Gi:=Nt (P:=l.prog) (w:=w) (mg:=mg) (base:=base) F1 B.len B.all nr nc b c m2;have Gm:=Pt H F1 b1 m1 Gi;have qP:=Ny (P:=l.prog) (w:=w) (mg:=mg) (base:=base) J B.range F6 b6 m6;have Gc:=NA I B.len J O Q qP b c m2;have i:=NF (P:=l.prog) (w:=w) (mg:=mg) (base:=base) a B.zip;have xV:=NH (P:=l.prog) (w:=w) (mg:=mg) (base:=base) oM B.zip;have tF:=NJ (P:=l.prog) (w:=w) (mg:=mg) (base:=base) pD;have uC:=NM (P:=l.prog) (w:=w) (mg:=mg) (base:=base) pc B.zip we;have v_:=NU oU a f g i;have rY:=NV oH D a f g i;have tE:=Os oh D B.range B.len oU uq uy v_ pD vM yG tF pc uH tD uC oM wI vD xV;have yl:=Ot qG oh yR yQ tE;have uh:=Ow qg B.zip b c m2 Gw a f g i;have oR:=Oy (P:=l.prog) (w:=w) (mg:=mg) (base:=base) j B.len;have vN:=OA F9 B.range j S T oR;have Gu:=OD pA F9 b9 m9 vN;have vH:=OI (P:=l.prog) (w:=w) (mg:=mg) (base:=base) F8 B.len B.all B.zip;have ng:=OK qJ B.zip D qG uD vG yl I M N Gc qg wk yC uh oH xx yF rY;have sN:=OO qm B.range B.list a f g i;have pZ:=OR q B.all qO B.len j S T oR;have og:=OT (P:=l.prog) (w:=w) (mg:=mg) (base:=base) r qO B.len;have rd:=OW Z B.len q oY qM pZ r qH p6 og F8 b8 m8 vH;have xI:=Pg Y B.len qJ uu xH ng pA tZ wy Gu J O Q qP I M N Gc Z t7 uF rd q oY qM pZ r qH p6 og qm u6 uW sN;have vf:=Pv F7 H L m3 Gm Y xL vX xI b c m2 Gw;have E:=Px d F7 b7 m7 vf;have xX:=Pz U B.len d o p E;have B4:=Kf (P:=l.prog) (w:=w) (mg:=mg) (base:=base) qa B u x y;have kE:=PM (P:=l.prog) (w:=w) (mg:=mg) (base:=base) qb B u x y qa xC sK;have pK:=PU (P:=l.prog) (w:=w) (mg:=mg) (base:=base) z B;have mG:=P0 (P:=l.prog) (w:=w) (mg:=mg) (base:=base) pk B A oX oq;have w4:=QK (P:=l.prog) (w:=w) (mg:=mg) (base:=base) qQ B.all B.range (gp.m X G);have yN:=QM oW B.len (oK.m X G) q2 H L m3 Gm qQ wx rX w4 d o p E;have wc:=QH (P:=l.prog) (w:=w) (mg:=mg) (base:=base) qu B.isinstance (xG.n X G) (tK.m X G) (tY.m X G) (oK.m X G) (wA.m X G) (yt.m X G) (tW.m X G);have l5:=QN qi (u8.m X G) M2 S2 oW xZ wX yN qu rm xD wc;have t6:=Qh (P:=l.prog) (w:=w) (mg:=mg) (base:=base) pJ (wM.n X G);have sH:=Qr (P:=l.prog) (w:=w) (mg:=mg) (base:=base) pI B;have uU:=Qv pV B pI ya wO sH z oJ qc pK xU wa sJ pJ rN C t6;have ur:=QE pF B (F.n X G) z oJ qc pK pV rA vJ uU;have kQ:=Kk (P:=l.prog) (w:=w) (mg:=mg) (base:=base) A B;exact QW FL B (F.n X G) xm v9 vd yn yf uI u x y qb yA sA kE pF sO ut ur d o p E U vi qV xX pk t9 xo mG A oX oq kQ qi xO vj l5
def walk{l:PySem.W.OpenLaw}{q:Program}{g:List Str}{o:(Str->Option Value)->Heap->Prop}{b:World->Heap->Prop}{d:DefRec}{K:Params->Af}(hn:l.most=some 63)(i:d.params.defaults=[])(j:∀(w:World)(h:Heap),b w h->(K w.params).In h)(F:∀(w:World)(mg:Str->Option Value)(fa:Addr)(h:Heap),(K w.params).In h->h.Ns mainGlobals mg->mg d.name=some (.ref fa)->
   ∃fd:FuncData,(∀(s:Shared)(u:Value),BindsTo s fd ⟨[u],[]⟩ [("script",u)])/\∀base:Heap,(K w.params).In base->base.Ns mainGlobals mg->ar l.prog w (K w.params) mg base aK 11 fa fd ["script"] (DO (K w.params))):
  PySem.W.WalkO q g o b l.row.toRowW d [] (fun f vs=>PySem.call f vs):=
 L2.Hv (n:=63) (k:=11) (x:="script") (CX:=fun _=>aK) (sp:=fun w=>DO (K w.params)) hn ξ i ⟨rfl,ξ,ξ⟩ j F (fun _ _ a ns c _ e=>⟨a,ns,rfl,e,c,fun _=>rfl⟩) fun _ _ _ _ _ z=>z
end K22
open PySem PySem.W PyProof.Rows
structure PySem.W.Fast:Prop where
 (tw10112597150938152983 tw10214211319456566681 tw10220401962321547245 tw10260633394047762747 tw10265832761709355810 tw10288593213090935337 tw10320983976065154062 tw10332769489656626630 tw10393300800707404695 tw1041139869290093859 tw10471676310220367932 tw10499506691147578017 tw10532805660089716271 tw10670152459184608948 tw10715839108441328360 tw10725782740401146353 tw1074219389326149620 tw1074838925896109285 tw10761616720744561610 tw10806436854386989781 tw10857437459673779672 tw1087876206079472301 tw10901841027432048991 tw10931197512022304293 tw10960769604464119723 tw10985205805596504774 tw10991592407715017959 tw11028505652497460345 tw11129824159842334674 tw11165809399607698198 tw11210429601750210707 tw11294800425450513160 tw11319027173448858409 tw11361232417124015732 tw11503249956299529306 tw11713404435593014518 tw11785037780143409282 tw11790536078592747030 tw11796229850404271582 tw11800002758794141393 tw11832555925996832320 tw11844660081164460246 tw11859898968657327582 tw11860620488425922816 tw11883035950695298432 tw11970063590456079458 tw11975890758634955880 tw12020614113425786855 tw1214910607139039996 tw1222651436930589509 tw12303741329957002267 tw12324035588093672265 tw12334386359224904950 tw12377294304927857274 tw12406500373859558397 tw12444408940498916264 tw12488202564377942354 tw12500382282146659727 tw12531632981024374982 tw12595249345303612822 tw12603765055447151255 tw12688726615402150355 tw12690508332836705890 tw12715828490433292787 tw12731988822981967120 tw12769394322935127210 tw12774166486923947841 tw12792243461880379409 tw12809449562994403528 tw12972489921756390626 tw13086761465218218083 tw13088545803440497696 tw13170675875518922635 tw13196478086584252297 tw13332057921113147484 tw13387114336968616324 tw13421553647538103044 tw13456672258874700892 tw13560135638835318735 tw13569645104663623242 tw13579987195069499615 tw13604783296611518753 tw13638845881190482907 tw13655372041976288130 tw13822950717236458155 tw13842753257771932773 tw13885984622147020981 tw13894623826108566184 tw13966326761332397282 tw14027964081156429762 tw1405148648314419486 tw14061366981623692450 tw14106276161901618587 tw14111556083801509357 tw14150756598485166882 tw14151683112734350488 tw1418633156658482495 tw14213447541303365486 tw14226603978994279853 tw1426356054434526235 tw1431245663798750118 tw14420573731330090070 tw14445011437698020401 tw1446601306710413848 tw14480482196311587493 tw14572718151366427852 tw14619033781260960177 tw14649929024323256729 tw14650730212611138332 tw14658117475985221847 tw1470719748019947999 tw14724014231049673091 tw1476159939430410986 tw1479360855580296057 tw14822824461165022415 tw14838304288188379257 tw1496986171332186325 tw14993273180013473385 tw15016491380464081256 tw15070593123591376295 tw15086209016851415716 tw15124174695458969082 tw15152093492282218935 tw15163582228143059947 tw15243965017359225486 tw15348905764812238658 tw15359793743935106585 tw15364054250114846902 tw15398976072846805451 tw15404726707120948735 tw15432455292366959755 tw15524169669052905263 tw15548591802397919443 tw15549148084390133504 tw15565268095611462431 tw15628904915619963853 tw15695523370077466926 tw15701685408156184440 tw15749320779652797416 tw15756322823451366222 tw15845376899083996370 tw15854311571003933226 tw15919447248685503662 tw15974815719339408083 tw15987148066355340988 tw16070932058365805631 tw1614020296825410393 tw16351745454200892973 tw1637243171539531867 tw16391926526028830171 tw16399392218361156325 tw16400551392657489316 tw16420735305449850166 tw16442043661643322478 tw16511288530901157167 tw16570154793647118496 tw16633732223115495286 tw16651037687192870661 tw16676664975785888164 tw16686259363672051953 tw16719453160352616342 tw16747074722999471546 tw16831219247913980293 tw16851999691629191475 tw16901424869175806735 tw16909746089627830398 tw16915692613605453079 tw16970678131757658656 tw1698823386086291762 tw17023788322692424861 tw17058146831816449335 tw1708348374014576462 tw17109781442600135378 tw17134991339379057677 tw17217545733648077696 tw17295702757560246206 tw17357281293723082136 tw17390773084390915111 tw17407856555917685749 tw1744898227196816009 tw17512972152936937406 tw17589099482777612801 tw17658480209722440642 tw17721580843913905056 tw17723940790740344147 tw1803777608116139548 tw18056717275109493137 tw18061665268485279799 tw18062737482196974617 tw18082752961873342208 tw18210869613599428003 tw18234883138487196439 tw18281356788227813352 tw18286585005090200824 tw18361109817117035224 tw18368627630518364636 tw18387557799184173438 tw184419864530466333 tw1847685579111185433 tw1993058091284355224 tw2003063344151581407 tw2025632306603685074 tw2050481903440882334 tw2065677736337011036 tw2121822041370459325 tw2132676937450928944 tw2243497942106935590 tw2272121371845733453 tw2479888038011318141 tw262272552039155138 tw2740962584321859828 tw2752564598696980175 tw2776335515094040115 tw2843293626063500057 tw2877713528664355426 tw2887861332926274696 tw2968879504534961226 tw3077052931978228335 tw3143267940369421992 tw3230675161696653838 tw3495831041130862599 tw3518775219235045649 tw3523312487871286336 tw3583108295818876103 tw3651700738174134246 tw3805059086507475976 tw380969232907705055 tw3851616305100017357 tw3872050204892772105 tw3945543677737455619 tw3958375896462889915 tw3959080582255715961 tw3999734437317575456 tw4072051004471836258 tw4151382387757298110 tw4284549512028409993 tw4298401069472789953 tw4302239556969878365 tw4307956994317580797 tw4333181561611197987 tw4341023581616387139 tw4376523939208957587 tw4408592892479033163 tw4434463987096159657 tw4460453584989243899 tw4514745153350490804 tw4623517457430888680 tw4630819778390653023 tw466258848538098262 tw4696451983926144059 tw47364266858081876 tw4806874707570233092 tw4861896210492793590 tw4885575974435226472 tw4898232326651549001 tw493734847973896145 tw4962431921135565099 tw500897656660929425 tw501880708508353092 tw5044663032300943773 tw5079129471650493291 tw5079448704664018476 tw5126383199472452450 tw5126692370039739004 tw515093605030330774 tw5290732256208616927 tw5314290893215248126 tw5383015573070506775 tw5414898003192227014 tw5424925156813059035 tw543954991834929896 tw5475015884105889588 tw5520536261423276295 tw57513352676785702 tw575291687085306183 tw5836671683384855828 tw5857079488031444812 tw5975197778004417227 tw5976014656412823515 tw597789476302743336 tw6042985956112242667 tw6094113733963249127 tw612316784872825541 tw6131232784862830234 tw6197449917413283211 tw6220128772320457137 tw6278736543369257588 tw6329056362456704077 tw6445161949819974901 tw6466996036024085036 tw660976194226936662 tw6671818551666610709 tw6703875772189733391 tw6735421877071732510 tw6779099003086810261 tw6782919703767862740 tw7061905025132749389 tw7097509661600062652 tw720655062854799396 tw7258951848107931404 tw7281653627941644352 tw732229412739647346 tw7339179811084826544 tw7357662696757194590 tw741346091314582544 tw7417694684811759930 tw7483248870226341857 tw7499398195455607408 tw7687267717075432395 tw7703223703392060038 tw7722801671644113063 tw7904076138630893878 tw7936114418652347019 tw8008317847227824055 tw8136480894546427104 tw8152314471363734406 tw8158501255576915030 tw8332184848349653356 tw8354661923524185492 tw8373667894573615144 tw8430397464592786062 tw8434627514249097219 tw8450790601226195823 tw8484773855591727463 tw8488032927239706961 tw8488712278651812109 tw8502649456683445732 tw8515382321855541505 tw8576022946798341182 tw8616302572231440263 tw8688058753268203019 tw8754214025791317112 tw8841033308219775222 tw8854818893079511627 tw8864828076841323112 tw8879272389869542804 tw8950953821352844027 tw8974530896030234061 tw8999927709719558763 tw9013101221853514275 tw9041376298201592014 tw9041938124966115496 tw9049018716111136770 tw9050339773873800203 tw9091324283859597877 tw9096682120038485222 tw9112959465341039722 tw9199790492035221647 tw9244343539341973321 tw9263561393728571510 tw9308679829233521022 tw9332785420639908231 tw9357964830727797010 tw943199778703773224 tw9448339394428346454 tw9493288112255407846 tw9557528970233211106 tw9588345896449329925 tw9633190519609733944 tw9681652697279655359 tw969219778811149060 tw9704834997669289159 tw9776746968863642327 tw9785966691859796233 tw9915009812262912915 tw9981236636053898632:True)
set_option maxRecDepth 100000 in
set_option maxHeartbeats 0 in
theorem PySem.Challenge.cw_seamwright_k22_steps_by_little_squares_holds : PySem.Challenge.rw_seamwright_k22_steps_by_little_squares.Holds := by
 w_on; o_law; k_head; (case hw=>w_witness2)
 k_fill
 refine K22.walk (l:=PySem.Challenge.rw_seamwright_k22_steps_by_little_squares) rfl rfl (fun w h Y=>PySem.W.kIn_of Y) ?F
 case F=>
  intro w mg fa h KX G gj;refine' K22.QX KX G gj ?_ ?_ ?_ ?_ ?_ ?_ ?_ ?_ ?_ ?_ ?_ ?_ ?_ ?_ ?_ ?_ ?_ ?_ ?_ ?_ ?_ ?_ ?_ ?_ ?_ ?_ ?_ ?_ ?_ ?_ ?_ ?_ ?_ ?_ ?_ ?_ ?_ ?_ ?_ ?_ ?_ ?_ ?_ ?_ ?_ ?_ ?_ ?_ ?_ ?_ ?_ ?_ ?_ ?_ ?_ ?_ ?_ ?_ ?_ ?_ ?_ ?_ ?_ ?_ ?_ ?_ ?_ ?_ ?_ ?_ ?_ ?_ ?_ ?_ ?_
  all_goals try first | refine' L2.GR ?_ ?_ ?_ ?_ | refine' L2.Nn.mk ?_ | refine' K22.QG ?_ ?_ ?_ ?_ ?_ ?_ ?_ ?_ ?_ ?_ ?_ ?_ ?_ ?_ ?_ | refine' L2.M8 ?_ ?_ ?_
  all_goals try first | k_is | kit_is | k_exc
#print axioms PySem.Challenge.cw_seamwright_k22_steps_by_little_squares_holds
end
